/-
  Steps of the proof.
-/
import Derived.Laws.Rows
import Derived.Test.YtfkhljmiehdgmaaGreatDoorCuBE
set_option maxRecDepth 100000
set_option maxHeartbeats 40000000
namespace Go.Proofs.YtfkhljmiehdgmaaGreatDoor
open Go.RowKit Go.Proofs.Tryz Pl
namespace Pl
def qcg(b:UInt8):Nat:=if b=35 then 0 else if b=94 then 1 else if b=47 then 2 else if b=62 then 3 else 4
def qb3(k:Nat):Int:=if k=1 then 0 else if k=2 then 1 else if k=3\/k=4 then 2 else if k=5 then 3 else 4
def qfw(i:Nat):Int:=if i=0 then 2 else if i=1 then 2 else if i=2 then 3 else if i=3 then 4 else 1
def qjs(i:Nat)(c:zU):zU:=if i<4 then Go.Lib.trimS (c.drop 1) qag else c
def pcOk(i:Nat)(c:zU):Bool:=if i=3 then qa4 (qjs i c)else isNm (qjs i c)
theorem q8u(b:UInt8):qcg b<=4:=by
 unfold qcg;repeat' split
 all_goals omega
theorem za8{x:UInt8}{t cs:zU}(h:Go.Lib.trimRightS (x::t) cs=x::t):Go.Lib.trimRightS t cs=t:=by
 rw[quf]at h;split at h
 ·next q=>
  split at h
  ·cases h
  ·injection h with _ h
   rw[<-h];rfl
 ·injection h
theorem za7{x:UInt8}{t:zU}(h:Go.Lib.trimRightS (x::t) qag=x::t):Go.Lib.trimS t qag=Go.Lib.trimLeftS t qag:=by
 unfold Go.Lib.trimS;rw[za8 h]
theorem qlr(b:UInt8)(l:zU)(y:b≠33)(D:b≠61)(I:Go.Lib.trimRightS (b::l) qag=b::l) :
  qb3 (qba (b::l)).kind=qfw (qcg b)/\(qba (b::l)).slip=(if pcOk (qcg b) (b::l)=true then 0 else 3)/\((qba (b::l)).slip=0->(qba (b::l)).name=qjs (qcg b) (b::l))/\decide ((qba (b::l)).kind=4)=decide (qcg b=1):=by
 have J:=za7 I;have e:qay (b::l)=if b=35 then 3 else if b=94 then 4 else if b=47 then 5 else if b=62 then 6 else 2:=by
  show(if b=33 then 7 else if b=61 then 8 else _)=_;rw[if_neg y,if_neg D]
 have key:∀(k:Nat) (n:zU),(qcc k n).kind=k/\(qcc k n).slip=(if(if k=6 then qa4 n else isNm n)=true then 0 else 3)/\((qcc k n).slip=0->(qcc k n).name=n):=by
  intro k n;unfold qcc;by_cases q:(if k=6 then qa4 n else isNm n)=true
  ·rw[if_pos q,if_pos q];exact⟨rfl,rfl,fun _=>rfl⟩
  ·rw[if_neg q,if_neg q];exact⟨rfl,rfl,fun z=>by cases z⟩
 unfold qba;rw[e];unfold qcg pcOk qjs;by_cases c1:b=35
 ·simp only[c1,if_true]
  obtain⟨k1,k2,k3⟩:=key 3 (Go.Lib.trimLeftS l qag);refine⟨?_,?_,fun q=>(k3 q).trans ?_,?_⟩
  all_goals simp[k1,k2,J,qb3,qfw]
 by_cases c2:b=94
 ·simp only[c2]
  obtain⟨k1,k2,k3⟩:=key 4 (Go.Lib.trimLeftS l qag);refine⟨?_,?_,fun q=>(k3 q).trans ?_,?_⟩
  all_goals simp[k1,k2,J,qb3,qfw]
 by_cases c3:b=47
 ·simp only[c3]
  obtain⟨k1,k2,k3⟩:=key 5 (Go.Lib.trimLeftS l qag);refine⟨?_,?_,fun q=>(k3 q).trans ?_,?_⟩
  all_goals simp[k1,k2,J,qb3,qfw]
 by_cases c4:b=62
 ·simp only[c4]
  obtain⟨k1,k2,k3⟩:=key 6 (Go.Lib.trimLeftS l qag);refine⟨?_,?_,fun q=>(k3 q).trans ?_,?_⟩
  all_goals simp[k1,k2,J,qb3,qfw]
 ·simp only[if_neg c1,if_neg c2,if_neg c3,if_neg c4]
  obtain⟨k1,k2,k3⟩:=key 2 (b::l);refine⟨?_,?_,fun q=>(k3 q).trans ?_,?_⟩
  all_goals simp[k1,k2,qb3,qfw]
end Pl
variable{w0 w:World}{kd:Int}{a:Nat}{pv:Value}{tn:Bool}
def qcb(kd:Int)(a:Nat)(tx:zT)(pv:Value)(tn:Bool)(en:Int):Array Value:=#[zI kd,zI a,.string tx,pv,.bool tn,zI en]
structure PcM(w0 w:World)(kd:Int)(a:Nat)(tx:zT)(pv:Value)(tn:Bool):Prop where
 blk:w.heap[w0.heap.size+1]?=zK (qcb kd a tx pv tn 0) 136
 res:qfu w w0.heap.size
 kin:w.heap[w0.heap.size+1+1]?=zK #[zI 2,zI 2,zI 3,zI 4] 3
 below:zW w0 w
 sz:w0.heap.size+3<=w.heap.size
theorem PcM.kept{w':World}{tx:zT}(h:PcM w0 w kd a tx pv tn)(y:zW w w'):PcM w0 w' kd a tx pv tn:=by
 have:=h.sz;exact⟨(y.block _ (by omega)).trans h.blk,h.res.kept y (by omega),(y.block _ (by omega)).trans h.kin,h.below.trans (y.mono (by omega)),yh h.sz y.size⟩
theorem qql(w:World)(g:Nat)(kd:Int)(a:Nat)(tx:zT)(pv:Value)(tn:Bool)(h:w.heap[g]?=zK (qcb kd a tx pv tn 0) 136) :
  (∀z,(w.setCell (zO g 0) (zI z)).heap[g]?=zK (qcb z a tx pv tn 0) 136) /\
  (∀z,(w.setCell (zO g 2) (.string z)).heap[g]?=zK (qcb kd a z pv tn 0) 136) /\
  (∀z,(w.setCell (zO g 3) z).heap[g]?=zK (qcb kd a tx z tn 0) 136) /\
  (∀z,(w.setCell (zO g 4) (.bool z)).heap[g]?=zK (qcb kd a tx pv z 0) 136):=
 ⟨fun _=>xG w g 0 _ _ _ h,fun _=>xG w g 2 _ _ _ h,fun _=>xG w g 3 _ _ _ h,fun _=>xG w g 4 _ _ _ h⟩
theorem PcM.set{tx:zT}(h:PcM w0 w kd a tx pv tn)(j:Nat)(v:Value){kd':Int}{tx':zT}{pv':Value}{tn':Bool}
  (y:(w.setCell (zO (w0.heap.size+1) j) v).heap[w0.heap.size+1]?=zK (qcb kd' a tx' pv' tn' 0) 136):PcM w0 (w.setCell (zO (w0.heap.size+1) j) v) kd' a tx' pv' tn':=by
 have z:(w.setCell (zO (w0.heap.size+1) j) v).heap.size=w.heap.size:=by simp
 refine⟨y,?_,(xJ _ _ _ _ (by simp)).trans h.kin,h.below.setCell (by simp) _,by rw[z];exact h.sz⟩;obtain⟨cs,t,D,I⟩:=h.res;exact⟨cs,t,(xJ _ _ _ _ (by simp)).trans D,I⟩
theorem PcM.cells{tx:zT}(h:PcM w0 w kd a tx pv tn):∀(j:Nat) (v:Value),(qcb kd a tx pv tn 0).toList[j]?=some v->w.cell? (zO (w0.heap.size+1) j)=some v:=qaa h.blk
theorem PcM.kinds{tx:zT}(h:PcM w0 w kd a tx pv tn)(i:Nat)(y:i<4):w.cell? (zO (w0.heap.size+1+1) i)=some (zI (Pl.qfw i)):=by
 have:=qaa h.kin
 match i,y with
 |0,_=>exact this 0 _ rfl
 |1,_=>exact this 1 _ rfl
 |2,_=>exact this 2 _ rfl
 |3,_=>exact this 3 _ rfl
theorem PcM.thaw{tx:zT}(h:PcM w0 w kd a tx pv tn)(j:Nat):w.frozen? (zO (w0.heap.size+1) j)=false:=xH w _ j _ _ h.blk
theorem qq3:(prog.info? 136).map (·.size)=some 6:=by kernel_rfl
theorem zhp(w:World)(o:Obj)(a:Addr)(h:a.block<w.heap.size):(w.alloc o).cell? a=w.cell? a:=by
 unfold World.cell?;rw[xI w o h]
theorem qm5{P:Program}{fn:Func}{R:Ending->World->Prop}{a:Act}{u p:Tmp}{ty:TypeId}(h:fn.results=#[.cell p ty,.tmp u])(g:Nat)(d:TypeDesc)(D:P.underlying ty=some d)(hd:aggD d=true)(cs:Array Value)(I:(P.info? ty).map (·.size)=some cs.size)
  (J:a.tmps.getD p undef=zP g) (O:∀j v,cs.toList[j]?=some v->w.cell? (zO g j)=some v) (z:a.defers=[]) (y:Value) (T:a.tmps.getD u undef=y) (U:R (.returned (.tuple #[.agg cs,y])) w):bodyPost P fn R .ret a w:=by
 subst T;exact bodyPost_ret (qjd h a.tmps _ g _ d J O D hd I) z U
theorem q8d(a:Nat)(w:World) :
  zC 83 #[zS,zI a] w (zR (.tuple #[.agg (qcb 1 a ⟨#[]⟩ (zN) false 0),zI 3]) w):=by
 go_enter func83,ntmps83
 go_wp2
 refine qm5 results83 w.heap.size _ underlying136 rfl (qcb 1 a ⟨#[]⟩ (zN) false 0) qq3 rfl ?_ rfl _ rfl ?_
 ·intro j v y
  rw[zhp _ _ _ (by simp)];exact qaa (xF w _) j v y
 ·exact⟨rfl,(zB _).alloc (by simp) _⟩
theorem qsx(c:zT)(a:Nat)(w:World)(hc:c.size<=1000000)(h0:0<c.size) :
  zC 83 #[.string c,zI a] w fun e w'=>(∃ao n cap,e=.returned (.tuple #[.agg (qcb (Pl.qfw (Pl.qcg c[0])) a ⟨(Pl.qjs (Pl.qcg c[0]) c.data.toList).toArray⟩ (.slice ao n cap) (decide (Pl.qcg c[0]=1)) 0),zI (if Pl.pcOk (Pl.qcg c[0]) c.data.toList=true then 0 else 3)]))/\zW w w':=by
 have hg:(c.toList==[])=false:=by
  rw[ByteArray.toList_eq,yf];intro e;have:c.data.toList.length=c.size:=rfl;rw[e]at this;simp at this;omega
 have he:=Pl.q8u c[0];have HM:Hid (∀k:Nat,k<4->∀(h:k<(⟨#[35,94,47,62]⟩:zT).size),((c[0].toNat:Int)==((⟨#[35,94,47,62]⟩:zT)[k].toNat:Int))=decide (k=Pl.qcg c[0])):=by
  intro k hk h;rw[beq8,xh,yF,decide_eq_true_iff];have hm:∀b:UInt8,((b=35)↔Pl.qcg b=0)/\((b=94)↔Pl.qcg b=1)/\((b=47)↔Pl.qcg b=2)/\((b=62)↔Pl.qcg b=3):=by
   have:∀n∈List.range 256,((UInt8.ofNat n=35)↔Pl.qcg (UInt8.ofNat n)=0)/\((UInt8.ofNat n=94)↔Pl.qcg (UInt8.ofNat n)=1)/\((UInt8.ofNat n=47)↔Pl.qcg (UInt8.ofNat n)=2)/\((UInt8.ofNat n=62)↔Pl.qcg (UInt8.ofNat n)=3):=by decide +kernel
   intro b;have:=this b.toNat (xg.2 b.toNat_lt)
   rwa [UInt8.ofNat_toNat]at this
  obtain⟨m0,m1,m2,m3⟩:=hm c[0]
  match k,hk with
  |0,_=>exact m0.trans ⟨fun q=>q.symm,fun q=>q.symm⟩
  |1,_=>exact m1.trans ⟨fun q=>q.symm,fun q=>q.symm⟩
  |2,_=>exact m2.trans ⟨fun q=>q.symm,fun q=>q.symm⟩
  |3,_=>exact m3.trans ⟨fun q=>q.symm,fun q=>q.symm⟩
 have H0:Hid (∀W0,((w.alloc (.cells #[zI 0,zI 0,zS,zN,.bool false,zI 0] 136)).alloc (.cells #[zI 1,zI a,.string c,zN,.bool false,zI 0] 136)).alloc (.cells #[zI 2,zI 2,zI 3,zI 4] 3)=W0->PcM w W0 1 a c (zN) false):=by
  rintro W0 rfl;refine⟨?_,?_,?_,((zB _).alloc (by simp) _).alloc (by rw[qlo,qlo];omega) _,by simp⟩
  ·rw[xI _ _ (by simp)]
   have:=xF (w.alloc (.cells #[zI 0,zI 0,zS,zN,.bool false,zI 0] 136)) (.cells #[zI 1,zI a,.string c,zN,.bool false,zI 0] 136);rw[qlo]at this;exact this
  ·exact((qp9 w _ _ _ rfl rfl).alloc _).alloc _
  ·have:=xF ((w.alloc (.cells #[zI 0,zI 0,zS,zN,.bool false,zI 0] 136)).alloc (.cells #[zI 1,zI a,.string c,zN,.bool false,zI 0] 136)) (.cells #[zI 2,zI 2,zI 3,zI 4] 3)
   rw[qlo,qlo]at this;exact this
 obtain⟨D,hD⟩:∃D:zT,D=⟨#[35,94,47,62]⟩:=⟨_,rfl⟩;rw[<-hD]at HM;have Hg:D.size=4:=by rw[hD];rfl
 have HT:Hid (∀w,zC 82 #[.string (c.extract 1 c.size)] w (zQ (.string ⟨(Go.Lib.trimS (c.data.toList.drop 1) Pl.qag).toArray⟩) w)):=by
  intro w;have hz:(c.extract 1 c.size).size<=1000000:=by rw[extract_drop,qb1,yM];show c.size - 1<=_;omega
  have:=qpw (c.extract 1 c.size) w hz;have e:(c.extract 1 c.size).data.toList=c.data.toList.drop 1:=by rw[extract_drop]
  rwa [e]at this
 have HX:Hid (∀t:zT,t=⟨(Go.Lib.trimS (c.data.toList.drop 1) Pl.qag).toArray⟩->∀m:Nat,cond (decide (m<4)) t c=⟨(Pl.qjs m c.data.toList).toArray⟩):=by
  rintro t rfl m;unfold Pl.qjs;by_cases q:m<4
  ·rw[yV q,if_pos q];rfl
  ·rw[yx q,if_neg q];rfl
 obtain⟨tx,J⟩:∃tx:zT,tx=⟨(Go.Lib.trimS (c.data.toList.drop 1) Pl.qag).toArray⟩:=⟨_,rfl⟩;have HX:=zH (HX.out tx J);rw[<-J]at HT;obtain⟨T,hT⟩:∃T:zT,T=⟨(Pl.qjs (Pl.qcg c[0]) c.data.toList).toArray⟩:=⟨_,rfl⟩;have Y:Pl.pcOk (Pl.qcg c[0]) c.data.toList=if Pl.qcg c[0]=3 then Pl.qa4 T.data.toList else Pl.isNm T.data.toList:=by rw[hT];rfl
 have zT:T.size<=1000000:=by
  rw[hT,qb1];unfold Pl.qjs Go.Lib.trimS;have hl:c.data.toList.length=c.size:=rfl;split
  ·have h1:=qiq (Go.Lib.trimRightS (c.data.toList.drop 1) Pl.qag) Pl.qag
   have h2:=qmd (c.data.toList.drop 1) Pl.qag;rw[yM]at h2;omega
  ·omega
 have O:Hid (cond (decide (Pl.qcg c[0]<4)) tx c=T):=(HX.out _).trans hT.symm;rw[Y,<-hT];clear Y hT HX;obtain⟨mn,Z⟩:∃mn,mn=Pl.qcg c[0]:=⟨_,rfl⟩;rw[<-Z]at HM he O |-;obtain⟨sl,U⟩:∃sl:Int,sl=if(if mn=3 then Pl.qa4 T.data.toList else Pl.isNm T.data.toList)=true then 0 else 3:=⟨_,rfl⟩;rw[<-U];have z:=(show Hid (sl=_)from U);clear U;have hi:(0:Int)<(c.size:Int):=by omega
 go_enter func83,ntmps83
 go_wp2
 rw[<-hD];clear hD J Z;generalize hW:World.alloc (World.alloc (World.alloc w _) _) _=W0;have ha:=zH (H0.out W0 hW);clear H0 hW;go_loopw [9] (fun i wr=>∃k:Nat,k<=4/\i=zI k/\Hid (PcM w wr (cond (decide (mn<k)) (Pl.qfw mn) 1) a (cond (decide (mn<k)) tx c) (zN) (cond (decide (mn<k)) (decide (mn=1)) false))) (fun i _=>4 - (intOf i).toNat)
 case atStart=>exact⟨0,yH _,rfl,ha⟩
 case round=>
  obtain⟨k,hk,rfl,HP⟩:=hrel;by_cases Ha:k<4
  rotate_left
  ·have He:k=4:=by omega
   subst He;have hb:Hid (PcM w wr (Pl.qfw mn) a T (zN) (decide (mn=1))):=by
    have:=HP.out;rw[O.out]at this;by_cases q:mn<4
    ·rw[yV q]at this;exact this
    ·have e4:mn=4:=by omega
     rw[yx q]at this;rw[e4]at this |-;exact this
   clear O HM ha HP HT;have Hb:=hb.out.cells;have q12:=Hb 2 _ rfl;clear Hb;have HN:Hid (∀w1 v L,qgk wr.heap.size w1 v L->zW wr w1->∃ao n cap,v=.slice ao n cap/\PcM w w1 (Pl.qfw mn) a T (zN) (decide (mn=1))):=by
    intro w1 v L hO hB;obtain⟨ao,cap,rfl⟩:=hO.slice;exact⟨ao,L.length,cap,rfl,hb.out.kept hB⟩
   have V:¬(((4:Nat):Int)<4):=by omega
   by_cases h3:mn=3
   ·have k3:(Pl.qfw mn==4)=true:=by rw[h3];rfl
    have H3:=(show Hid (mn=3)from h3);clear h3;cases y:Pl.qa4 T.data.toList
    ·have HV:Hid (sl=3):=by show _=_;rw[z.out,if_pos H3.out,y];rfl
     go_wp2_with (first|(go_at_call 120;refine(qkw T _ zT).mono ?_;rintro e w1 ⟨⟨v,rfl,L,hO,_⟩,hB⟩;obtain⟨ao,n,cap,rfl,hM⟩:=HN.out w1 v L hO hB;clear hO hB;have q0:=hM.cells 0 _ rfl;have q1:=hM.cells 1 _ rfl;have q2:=hM.cells 2 _ rfl;have q3:=hM.cells 3 _ rfl;have q4:=hM.cells 4 _ rfl;have q5:=hM.cells 5 _ rfl;have f3:=hM.thaw 3;have g0:=hM.res.thaw;obtain⟨x0,r0⟩:=hM.res.cell 0 (by decide);obtain⟨x1,r1⟩:=hM.res.cell 1 (by decide);obtain⟨x2,r2⟩:=hM.res.cell 2 (by decide);obtain⟨x3,r3⟩:=hM.res.cell 3 (by decide);obtain⟨x4,r4⟩:=hM.res.cell 4 (by decide);obtain⟨x5,r5⟩:=hM.res.cell 5 (by decide);have HM:=zH hM;clear hM)|(go_at_call 52;refine cm (qf4 T _ zT) ?_;rw[y]))
     refine qbz results83 w.heap.size _ underlying136 rfl qq3 rfl ((HM.out.set 3 _ ((qql _ _ _ _ _ _ _ HM.out.blk).2.2.1 (.slice ao n cap))).res) rfl _ _ _ _ _ _ _ rfl ?_;exact⟨⟨ao,n,cap,by rw[HV.out];rfl⟩,qb9 (HM.out.below.setCell (by simp) _) (yg _) _ _ _ _ _ _⟩
    ·have HV:Hid (sl=0):=by show _=_;rw[z.out,if_pos H3.out,y];rfl
     go_wp2_with (first|(go_at_call 120;refine(qkw T _ zT).mono ?_;rintro e w1 ⟨⟨v,rfl,L,hO,_⟩,hB⟩;obtain⟨ao,n,cap,rfl,hM⟩:=HN.out w1 v L hO hB;clear hO hB;have q0:=hM.cells 0 _ rfl;have q1:=hM.cells 1 _ rfl;have q2:=hM.cells 2 _ rfl;have q3:=hM.cells 3 _ rfl;have q4:=hM.cells 4 _ rfl;have q5:=hM.cells 5 _ rfl;have f3:=hM.thaw 3;have g0:=hM.res.thaw;obtain⟨x0,r0⟩:=hM.res.cell 0 (by decide);obtain⟨x1,r1⟩:=hM.res.cell 1 (by decide);obtain⟨x2,r2⟩:=hM.res.cell 2 (by decide);obtain⟨x3,r3⟩:=hM.res.cell 3 (by decide);obtain⟨x4,r4⟩:=hM.res.cell 4 (by decide);obtain⟨x5,r5⟩:=hM.res.cell 5 (by decide);have HM:=zH hM;clear hM)|(go_at_call 52;refine cm (qf4 T _ zT) ?_;rw[y]))
     refine qbz results83 w.heap.size _ underlying136 rfl qq3 rfl ((HM.out.set 3 _ ((qql _ _ _ _ _ _ _ HM.out.blk).2.2.1 (.slice ao n cap))).res) rfl _ _ _ _ _ _ _ rfl ?_;exact⟨⟨ao,n,cap,by rw[HV.out];rfl⟩,qb9 (HM.out.below.setCell (by simp) _) (yg _) _ _ _ _ _ _⟩
   ·have k3:(Pl.qfw mn==4)=false:=by
     rw[yf];unfold Pl.qfw
     repeat' split
     all_goals omega
    have H3:=(show Hid (¬mn=3)from h3);clear h3;cases y:Pl.isNm T.data.toList
    ·have HV:Hid (sl=3):=by show _=_;rw[z.out,if_neg H3.out,y];rfl
     go_wp2_with (first|(go_at_call 120;refine(qkw T _ zT).mono ?_;rintro e w1 ⟨⟨v,rfl,L,hO,_⟩,hB⟩;obtain⟨ao,n,cap,rfl,hM⟩:=HN.out w1 v L hO hB;clear hO hB;have q0:=hM.cells 0 _ rfl;have q1:=hM.cells 1 _ rfl;have q2:=hM.cells 2 _ rfl;have q3:=hM.cells 3 _ rfl;have q4:=hM.cells 4 _ rfl;have q5:=hM.cells 5 _ rfl;have f3:=hM.thaw 3;have g0:=hM.res.thaw;obtain⟨x0,r0⟩:=hM.res.cell 0 (by decide);obtain⟨x1,r1⟩:=hM.res.cell 1 (by decide);obtain⟨x2,r2⟩:=hM.res.cell 2 (by decide);obtain⟨x3,r3⟩:=hM.res.cell 3 (by decide);obtain⟨x4,r4⟩:=hM.res.cell 4 (by decide);obtain⟨x5,r5⟩:=hM.res.cell 5 (by decide);have HM:=zH hM;clear hM))
     refine qbz results83 w.heap.size _ underlying136 rfl qq3 rfl ((HM.out.set 3 _ ((qql _ _ _ _ _ _ _ HM.out.blk).2.2.1 (.slice ao n cap))).res) rfl _ _ _ _ _ _ _ rfl ?_;exact⟨⟨ao,n,cap,by rw[HV.out];rfl⟩,qb9 (HM.out.below.setCell (by simp) _) (yg _) _ _ _ _ _ _⟩
    ·have HV:Hid (sl=0):=by show _=_;rw[z.out,if_neg H3.out,y];rfl
     go_wp2_with (first|(go_at_call 120;refine(qkw T _ zT).mono ?_;rintro e w1 ⟨⟨v,rfl,L,hO,_⟩,hB⟩;obtain⟨ao,n,cap,rfl,hM⟩:=HN.out w1 v L hO hB;clear hO hB;have q0:=hM.cells 0 _ rfl;have q1:=hM.cells 1 _ rfl;have q2:=hM.cells 2 _ rfl;have q3:=hM.cells 3 _ rfl;have q4:=hM.cells 4 _ rfl;have q5:=hM.cells 5 _ rfl;have f3:=hM.thaw 3;have g0:=hM.res.thaw;obtain⟨x0,r0⟩:=hM.res.cell 0 (by decide);obtain⟨x1,r1⟩:=hM.res.cell 1 (by decide);obtain⟨x2,r2⟩:=hM.res.cell 2 (by decide);obtain⟨x3,r3⟩:=hM.res.cell 3 (by decide);obtain⟨x4,r4⟩:=hM.res.cell 4 (by decide);obtain⟨x5,r5⟩:=hM.res.cell 5 (by decide);have HM:=zH hM;clear hM))
     refine qbz results83 w.heap.size _ underlying136 rfl qq3 rfl ((HM.out.set 3 _ ((qql _ _ _ _ _ _ _ HM.out.blk).2.2.1 (.slice ao n cap))).res) rfl _ _ _ _ _ _ _ rfl ?_;exact⟨⟨ao,n,cap,by rw[HV.out];rfl⟩,qb9 (HM.out.below.setCell (by simp) _) (yg _) _ _ _ _ _ _⟩
  have V:(k:Int)<4:=by omega
  have hf:(k:Int)<(D.size:Int):=by omega
  have X:k<D.size:=by omega
  have hq:=HM.out k Ha X;by_cases Hc:k=mn
  rotate_left
  ·rw[yx Hc]at hq
   have Hf:Hid (PcM w wr (cond (decide (mn<k+1)) (Pl.qfw mn) 1) a (cond (decide (mn<k+1)) tx c) (zN) (cond (decide (mn<k+1)) (decide (mn=1)) false)):=by
    have e:decide (mn<k+1)=decide (mn<k):=decide_eq_decide.2 (by omega);rw[e];exact HP.out
   clear HP HM;go_wp2
   go_region
   all_goals
    go_wp2
    go_roundw
    case rel=>exact⟨k+1,by omega,by go_num,Hf.out.kept ((xL _ _).drew)⟩
    case measure=>simp[intOf];omega
  ·subst Hc
   rw[yV rfl]at hq;have q2:=HP.out.kinds k Ha;have I:Hid (PcM w wr 1 a c (zN) false):=by
    have:=HP.out;rw[yx (Nat.lt_irrefl k)]at this;exact this
   clear HP HM;have qc:=I.out.cells;have q10:=qc 0 _ rfl;have q14:=qc 4 _ rfl;have q12:=qc 2 _ rfl;have f10:=I.out.thaw;clear qc;go_wp2_with (go_at_call 82;refine cm (HT.out _) ?_)
   go_region
   all_goals
    go_wp2_with (go_at_call 82;refine cm (HT.out _) ?_)
    refine⟨⟨k+1,by omega,by go_num,?_⟩,by simp[intOf];omega⟩;have h1:=I.out.set 0 _ ((qql _ _ _ _ _ _ _ I.out.blk).1 (Pl.qfw k));have h2:=h1.set 4 _ ((qql _ _ _ _ _ _ _ h1.blk).2.2.2 ((k:Int)==1));have h3:=h2.set 2 _ ((qql _ _ _ _ _ _ _ h2.blk).2.1 tx);have e:((k:Int)==1)=decide (k=1):=by rw[xh,yF,decide_eq_true_iff];omega
    rw[yV (Nat.lt_succ_self k)];rw[e]at h3 |-;exact h3.kept ((xL _ _).drew)
namespace Pl
theorem qyo(p:UInt8->Bool):∀l:zU,l.dropWhile p=[]↔∀b∈l,p b=true
 |[]=>⟨fun _ b y=>(by cases y),fun _=>rfl⟩
 |x::l=>by
   by_cases q:p x=true
   ·rw[xw q,qyo p l]
    exact⟨fun h b y=>(xt.1 y).elim (fun e=>e▸q) (h b),fun h b y=>h b (yX _ y)⟩
   ·rw[xu q]
    exact⟨fun h=>(by cases h),fun h=>absurd (h x xo) q⟩
theorem zd1(p:UInt8->Bool):∀l:zU,∀b∈l.takeWhile p,p b=true
 |[],b,hb=>by cases hb
 |x::l,b,hb=>by
   by_cases q:p x=true
   ·rw[List.takeWhile_cons_of_pos q]at hb
    rcases xt.1 hb with rfl|hb
    ·exact q
    ·exact zd1 p l b hb
   ·rw[List.takeWhile_cons_of_neg q]at hb;cases hb
theorem q7c(cs l m:zU):Go.Lib.trimRightS (l++m) cs=if Go.Lib.trimRightS m cs=[]then Go.Lib.trimRightS l cs else l++Go.Lib.trimRightS m cs:=by
 unfold Go.Lib.trimRightS;rw[List.reverse_append,List.dropWhile_append];cases h:m.reverse.dropWhile (cs.contains ·)with
 |nil=>simp
 |cons a t=>simp
theorem q7b(cs m:zU):Go.Lib.trimRightS m cs=[]↔∀b∈m,cs.contains b=true:=by
 unfold Go.Lib.trimRightS;rw[List.reverse_eq_nil_iff];constructor
 ·intro h b y
  have:=(qyo _ _).1 h b (List.mem_reverse.2 y);exact this
 ·intro h
  exact(qyo _ _).2 (fun b y=>h b (List.mem_reverse.1 y))
theorem za9(cs m:zU)(h:Go.Lib.trimRightS m cs≠[]):∃b∈m,cs.contains b=false/\(Go.Lib.trimRightS m cs).getLast?=some b:=by
 unfold Go.Lib.trimRightS at h |-;cases hd:m.reverse.dropWhile (cs.contains ·)with
 |nil=>rw[hd]at h;exact absurd rfl h
 |cons b t=>
   refine⟨b,?_,?_,by simp⟩
   ·have:b∈m.reverse.dropWhile (cs.contains ·):=by rw[hd];exact xo
    exact List.mem_reverse.1 ((List.dropWhile_sublist _).subset this)
   ·have:=List.head?_dropWhile_not (cs.contains ·) m.reverse
    rw[hd]at this;simpa using this
theorem zet(cs l m:zU)(h:∀b∈l,cs.contains b=true):Go.Lib.trimLeftS (l++m) cs=Go.Lib.trimLeftS m cs:=by
 unfold Go.Lib.trimLeftS;rw[List.dropWhile_append,(qyo _ _).2 h];rfl
theorem zba(cs l m:zU)(h:¬ ∀b∈l,cs.contains b=true):∃b∈l,(Go.Lib.trimLeftS (l++m) cs).head?=some b:=by
 unfold Go.Lib.trimLeftS;rw[List.dropWhile_append];cases hd:l.dropWhile (cs.contains ·)with
 |nil=>exact absurd ((qyo _ _).1 hd) h
 |cons b t=>
   refine⟨b,?_,by simp⟩;have:b∈l.dropWhile (cs.contains ·):=by rw[hd];exact xo
   exact(List.dropWhile_sublist _).subset this
theorem qxi(t:zU):∀a,a<=t.length->(∀b∈(t.drop (lnF t a)).take (a - lnF t a),b≠10)/\(lnF t a=0\/∃l,t.take (lnF t a)=l++[10])
 |0,_=>⟨fun b z=>by simp[lnF]at z,.inl rfl⟩
 |a+1,h=>by
   unfold lnF;split
   ·next q=>
    refine⟨fun b z=>(by rw[xz]at z;cases z),.inr ⟨t.take a,?_⟩⟩;obtain⟨D,I⟩:=yb.1 q;rw[yB D,I]
   ·next q=>
    obtain⟨D,I⟩:=qxi t a (by omega);have y:=q22 t a;refine⟨fun b z=>?_,I⟩;rw[show a+1 - lnF t a=(a - lnF t a)+1 by omega,yB (by rw[yM];omega)]at z;rcases yn.1 z with z|z
    ·exact D b z
    ·rw[yv.1 z,List.getElem_drop]
     intro e;apply q;rw[<-e,yc (by omega)]
     congr 2;omega
theorem q82(b:UInt8)(h:b≠10):qdq.contains b=among b qag:=by
 have:∀n∈List.range 256,UInt8.ofNat n≠10->qdq.contains (UInt8.ofNat n)=among (UInt8.ofNat n) qag:=by decide +kernel
 have:=this b.toNat (xg.2 b.toNat_lt);rw[UInt8.ofNat_toNat]at this;exact this h
theorem qph{m:zU}(h:∀b∈m,b≠10):(∀b∈m,qdq.contains b=true)↔m.all (fun x=>among x qag)=true:=by
 rw[yW];exact⟨fun q b y=>by rw[<-q82 b (h b y)];exact q b y,fun q b y=>by rw[q82 b (h b y)];exact q b y⟩
theorem zds(t:zU)(a:Nat)(D:a<=t.length):((Go.Lib.trimRightS (t.take a) qdq).getLast?.any (·!= 10)=!(emp t (lnF t a) a))/\(emp t (lnF t a) a=true->(Go.Lib.trimRightS (t.take a) qdq).length=lnF t a):=by
 obtain⟨I,J⟩:=qxi t a D;have y:=q22 t a;have e:t.take a=t.take (lnF t a)++(t.drop (lnF t a)).take (a - lnF t a):=by
  rw[<-List.take_add,Nat.add_sub_cancel' y]
 have O:Go.Lib.trimRightS (t.take (lnF t a)) qdq=t.take (lnF t a)/\(t.take (lnF t a)).getLast?.any (·!= 10)=false:=by
  rcases J with J|⟨l,J⟩
  ·rw[J];exact⟨rfl,rfl⟩
  ·rw[J,q7c]
   exact⟨rfl,by simp⟩
 unfold emp;rw[e,q7c];generalize (t.drop (lnF t a)).take (a - lnF t a)=m at I;by_cases q:Go.Lib.trimRightS m qdq=[]
 ·have T:=(qph I).1 ((q7b _ _).1 q)
  rw[if_pos q,O.1,T];exact⟨O.2,fun _=>by rw[yP];omega⟩
 ·have T:m.all (fun x=>among x qag)=false:=by
   rw[ye];exact fun z=>q ((q7b _ _).2 ((qph I).2 z))
  rw[if_neg q,T];refine⟨?_,fun z=>by cases z⟩;obtain⟨b,U,_,V⟩:=za9 _ _ q;rw[List.getLast?_append,V];simp[I b U]
theorem zap(t:zU)(z:Nat)(O:z<=t.length):((Go.Lib.trimLeftS (t.drop z) qdq).head?.any (·!= 10)=!(emp t z (lnT t z)))/\(emp t z (lnT t z)=true->t.length - (Go.Lib.trimPrefix (Go.Lib.trimLeftS (t.drop z) qdq) [10]).length=if lnT t z<t.length then lnT t z+1 else lnT t z):=by
 have e:t.drop z=(t.drop z).takeWhile (·!= 10)++(t.drop z).dropWhile (·!= 10):=List.takeWhile_append_dropWhile.symm;have T:∀b∈(t.drop z).takeWhile (·!= 10),b≠10:=fun b U=>by
  have:=zd1 _ _ b U;simpa using this
 have V:=zd7 t z O;have I:emp t z (lnT t z)=((t.drop z).takeWhile (·!= 10)).all (fun x=>among x qag):=by
  unfold emp lnT;rw[Nat.add_sub_cancel_left]
  congr 1
  exact(List.prefix_iff_eq_take.1 (List.takeWhile_prefix _)).symm
 have J:lnT t z=z+((t.drop z).takeWhile (·!= 10)).length:=rfl;have y:((t.drop z).takeWhile (·!= 10)).length+((t.drop z).dropWhile (·!= 10)).length=t.length - z:=by
  rw[<-yJ,<-e,yM]
 have D:∀b,((t.drop z).dropWhile (·!= 10)).head?=some b->b=10:=fun b U=>by
  have:=List.head?_dropWhile_not (·!= (10:UInt8)) (t.drop z);rw[U]at this;simpa using this
 rw[I];generalize (t.drop z).takeWhile (·!= 10)=m at *;generalize (t.drop z).dropWhile (·!= 10)=r at *;by_cases q:∀b∈m,qdq.contains b=true
 ·have X:=(qph T).1 q
  rw[e,zet _ _ _ q,X]
  match r,D,y with
  |[],_,y=>
    simp only[yQ]at y;refine⟨rfl,fun _=>?_⟩;rw[if_neg (by omega)];show t.length - 0=_;omega
  |b::r,hh,y=>
    obtain rfl:=hh b rfl;simp only[yK]at y;have e2:Go.Lib.trimLeftS (10::r) qdq=10::r:=rfl;rw[e2];refine⟨rfl,fun _=>?_⟩;have e3:Go.Lib.trimPrefix (10::r) [10]=r:=by
     unfold Go.Lib.trimPrefix Go.Lib.hasPrefix;simp[List.isPrefixOf]
    rw[e3,if_pos (by omega)];omega
 ·have X:m.all (fun x=>among x qag)=false:=by
   rw[ye];exact fun w=>q ((qph T).2 w)
  rw[e,X];refine⟨?_,fun w=>by cases w⟩;obtain⟨b,U,Y⟩:=zba qdq m r q;rw[Y];simp[T b U]
theorem q83(t:zU)(a z:Nat)(y:a<=t.length)(D:z<=t.length):qel t a z=if(emp t (lnF t a) a && emp t z (lnT t z))=true then(lnF t a,if lnT t z<t.length then lnT t z+1 else lnT t z)else(a,z):=by
 obtain⟨I,J⟩:=zds t a y;obtain⟨O,T⟩:=zap t z D;unfold qel;rw[I,O];cases e1:emp t (lnF t a) a
 ·rfl
 ·cases e2:emp t z (lnT t z)
  ·rfl
  ·rw[J e1,T e2];rfl
end Pl
variable{parts:List Pt}{w0 w w' w1:World}{op:List Nat}{vo vs:Value}{g cap:Nat}
structure Rm where
 kd:Int
 pos:Nat
 text:zU
 pv:Value
 tn:Bool
 en:Nat
def qdi(r:Rm):List Value:=[zI r.kd,zI r.pos,.string ⟨r.text.toArray⟩,r.pv,.bool r.tn,zI r.en]
def qd8(L:List Rm):List Value:=L.flatMap qdi
theorem qqf(L:List Rm):(qd8 L).length=L.length*6:=by
 induction L with
 |nil=>rfl
 |cons p L ih=>show(qd8 L).length+6=_;rw[ih,yK];omega
theorem qwy(L:List Rm)(p:Rm):qd8 (L++[p])=qd8 L++qdi p:=by simp[qd8]
theorem qd5:∀(L:List Rm) (k:Nat) (p:Rm),L[k]?=some p->∀(j:Nat) (v:Value),(qdi p)[j]?=some v->(qd8 L)[k*6+j]?=some v
 |[],k,p,e=>by simp at e
 |q::L,0,p,e=>by
   simp only[yS,Option.some.injEq]at e;subst e;intro j v y;show(qdi q++qd8 L)[0*6+j]?=some v;rw[Nat.zero_mul,xf,yr (yb.1 y).1];exact y
 |q::L,k+1,p,e=>by
   intro j v y;have:=qd5 L k p (by simpa using e) j v y;show(qdi q++qd8 L)[(k+1)*6+j]?=some v;rw[yt (by simp[qdi];omega)];have e:(k+1)*6+j - (qdi q).length=k*6+j:=by simp[qdi];omega
   rw[e];exact this
def qlp(L:List Rm)(m n:Nat):List Rm:=L.modify m fun r=>{ r with en:=n }
theorem qsr:∀(L:List Rm) (m n:Nat),m<L.length->(qd8 L).set (m*6+5) (zI n)=qd8 (qlp L m n)
 |[],m,n,h=>by simp at h
 |q::L,0,n,_=>rfl
 |q::L,m+1,n,h=>by
   have ih:=qsr L m n (by simpa using h);have e:qlp (q::L) (m+1) n=q::qlp L m n:=by simp[qlp]
   rw[e];show(qdi q++qd8 L).set ((m+1)*6+5) _=qdi q++qd8 (qlp L m n);rw[List.set_append_right _ _ (by simp[qdi];omega)];have e2:(m+1)*6+5 - (qdi q).length=m*6+5:=by simp[qdi];omega
   rw[e2,ih]
structure RmOf(i:Nat)(r:Rm)(p:Pt):Prop where
 kd:r.kd=Pl.qb3 p.kind
 pos:r.pos=p.pos
 text:r.text=p.text
 tn:r.tn=decide (p.kind=4)
 en:r.en=if p.kind=3\/p.kind=4 then p.mate - i else 0
 pv:∃ao n cap,r.pv=.slice ao n cap
structure RmsOf(L:List Rm)(parts:List Pt):Prop where
 len:L.length=parts.length
 each:∀i r p,L[i]?=some r->parts[i]?=some p->RmOf i r p
theorem q76:RmsOf [] []:=⟨rfl,fun i r p h=>by simp at h⟩
theorem RmsOf.snoc{L:List Rm}(h:RmsOf L parts)(r:Rm)(p:Pt)(y:RmOf parts.length r p):RmsOf (L++[r]) (parts++[p]):=by
 refine⟨by rw[yJ,yJ,h.len];rfl,fun i r' p' z D=>?_⟩;by_cases q:i<parts.length
 ·rw[yr (by rw[h.len];exact q)]at z
  rw[yr q]at D;exact h.each i r' p' z D
 ·have I:=(yb.1 D).1
  rw[yJ]at I;simp only[yK,yQ]at I;have e:i=parts.length:=by omega
  subst e;rw[yt (yg _),xz]at D;rw[yt (by rw[h.len];exact yg _),h.len,xz]at z;simp at z D;subst z D;exact y
theorem RmsOf.mate{L:List Rm}(h:RmsOf L parts)(m n:Nat)(y:∀p,parts[m]?=some p->p.kind=3\/p.kind=4):RmsOf (qlp L m (n - m)) (qbd parts m n):=by
 refine⟨by unfold qlp qbd;rw[List.length_modify,List.length_modify];exact h.len,fun i r p z D=>?_⟩;unfold qlp at z;unfold qbd at D;rw[List.getElem?_modify]at z D;by_cases e:m=i
 ·subst e
  simp only[if_true]at z D;obtain⟨r0,I,rfl⟩:=yy.1 z;obtain⟨p0,J,rfl⟩:=yy.1 D;have:=h.each m r0 p0 I J;exact⟨this.kd,this.pos,this.text,this.tn,by show n - m=if p0.kind=3\/p0.kind=4 then n - m else 0;rw[if_pos (y p0 J)],this.pv⟩
 ·simp only[if_neg e]at z D
  obtain⟨r0,I,rfl⟩:=yy.1 z;obtain⟨p0,J,rfl⟩:=yy.1 D;exact h.each i r0 p0 I J
theorem qgo:(130:TypeId)≠136:=by decide
theorem qwf:(130:TypeId)≠3:=by decide
theorem qf9:(136:TypeId)≠3:=by decide
structure PaAt(w0 wr:World)(L:List Rm)(op:List Nat)(vo vs:Value):Prop where
 res:wr.heap[w0.heap.size]?=zK #[zI 0,zI 0] 130
 out:wr.ownsRow w0.heap.size 136 6 vo L.length (qd8 L)
 sc:wr.ownsRow w0.heap.size 3 1 vs op.length (qb0 op)
 below:zW w0 wr
theorem PaAt.lt{wr:World}{L:List Rm}(h:PaAt w0 wr L op vo vs):w0.heap.size<wr.heap.size:=(zL h.res)
theorem PaAt.kept{L:List Rm}(h:PaAt w0 w L op vo vs)(y:zW w w'):PaAt w0 w' L op vo vs:=
 ⟨(y.block _ h.lt).trans h.res,qab h.out fun k z=>y.block k (h.out.lt k z).2,qab h.sc fun k z=>y.block k (h.sc.lt k z).2,h.below.trans (y.mono (yj h.lt))⟩
theorem PaAt.more{L:List Rm}{vo':Value}(h:PaAt w0 w L op vo vs)(I:zW w w1)(r:Rm)(y:w'.ownsRow w0.heap.size 136 6 vo' (L.length+1) (qd8 L++qdi r))(z:w1.grownBy w' vo.ownBlock):PaAt w0 w' (L++[r]) op vo' vs:=by
 have h:=h.kept I;have D:∀(k:Nat) (cs:Array Value) (t:TypeId) (fz:Nat×Nat),w1.heap[k]?=some (.cells cs t fz)->t≠136->w'.heap[k]?=w1.heap[k]?:=fun k cs t fz J O=>z.block k (ya.1 J).1 (fun e=>by
  obtain⟨cur,T⟩:=qac h.out k e.symm;exact qae J T O rfl)
 refine⟨(D _ _ _ _ h.res qgo).trans h.res,?_,qab h.sc fun k J=>?_,h.below.grown z (yj h.lt) (fun k J=>(h.out.lt k J).1)⟩
 ·rw[qwy,yJ];exact y
 ·obtain⟨cur,T⟩:=qac h.sc k J
  exact D _ _ _ _ T qf9.symm
theorem PaAt.push{L:List Rm}{vs':Value}(h:PaAt w0 w L op vo vs)(I:zW w w1)(n:Nat)(y:w'.ownsRow w0.heap.size 3 1 vs' (op.length+1) (qb0 op++[zI n]))(z:w1.grownBy w' vs.ownBlock):PaAt w0 w' L (op++[n]) vo vs':=by
 have h:=h.kept I;have D:∀(k:Nat) (cs:Array Value) (t:TypeId) (fz:Nat×Nat),w1.heap[k]?=some (.cells cs t fz)->t≠3->w'.heap[k]?=w1.heap[k]?:=fun k cs t fz J O=>z.block k (ya.1 J).1 (fun e=>by
  obtain⟨cur,T⟩:=qac h.sc k e.symm;exact qae J T O rfl)
 refine⟨(D _ _ _ _ h.res qwf).trans h.res,qab h.out fun k J=>?_,?_,h.below.grown z (yj h.lt) (fun k J=>(h.sc.lt k J).1)⟩
 ·obtain⟨cur,T⟩:=qac h.out k J
  exact D _ _ _ _ T qf9
 ·have e2:qb0 (op++[n])=qb0 op++[zI n]:=by simp[qb0]
  rw[e2,yJ];exact y
theorem PaAt.mated{L:List Rm}{N:Nat}(h:PaAt w0 w L op (zF g N cap) vs)(m n:Nat)(I:m<L.length):PaAt w0 (w.setCell (zO g (m*6+5)) (zI n)) (qlp L m n) op (zF g N cap) vs:=by
 have y:∀k,k≠g->(w.setCell (zO g (m*6+5)) (zI n)).heap[k]?=w.heap[k]?:=fun k J=>xK _ _ _ _ J;obtain⟨cur,O⟩:=qac h.out g rfl;have z:=(h.out.lt g rfl).1;refine⟨(y _ (qae h.res O qgo)).trans h.res,?_,qab h.sc fun k J=>?_,h.below.setCell z _⟩
 ·have T:(qlp L m n).length=L.length:=by unfold qlp;rw[List.length_modify]
  have U:N=L.length:=by
   rcases h.out.2 with⟨V,_⟩|⟨g',cap',cur',X,_⟩
   ·cases V
   ·injection X
  subst U;rw[T,<-qsr _ _ _ I];exact(h.out.stored (m*6+5) (zI n)).1
 ·obtain⟨cur',D⟩:=qac h.sc k J
  exact y k (qae D O qf9.symm)
theorem PaAt.pop{L:List Rm}{n:Nat}(h:PaAt w0 w L op vo (zF g op.length cap))(y:n<=op.length):PaAt w0 w L (op.take n) vo (zF g n cap):=by
 refine⟨h.res,h.out,?_,h.below⟩;have:=qjt h.sc n y;have e:(op.take n).length=n:=by rw[yP];omega
 rw[e];have e2:qb0 (op.take n)=(qb0 op).take (n*1):=by unfold qb0;rw[List.map_take,Nat.mul_one]
 rw[e2];exact this
namespace Pl
variable{a o:Nat}{c:Ct}
theorem qpf{t x:zU}(y:a<=t.length)(h:qdr t x a=o):∃i,o=a+i/\Go.Lib.cut (t.drop a) x=((t.drop a).take i,t.drop (o+x.length),true)/\o+x.length<=t.length/\((t.drop a).take i).length=i:=by
 unfold qdr at h;split at h
 ·omega
 ·next q=>
  obtain⟨i,z⟩:∃i:Nat,Go.Lib.index (t.drop a) x=i:=⟨(Go.Lib.index (t.drop a) x).toNat,by omega⟩;rw[z]at h;have D:o=a+i:=by omega
  have I:=Go.Lib.index_room (t.drop a) x (by rw[z];omega);rw[z,yM]at I;refine⟨i,D,?_,?_,?_⟩
  ·unfold Go.Lib.cut
   rw[z,if_pos (by omega),yD];have e:(i:Int).toNat=i:=by omega
   rw[e,D,Nat.add_assoc]
  ·omega
  ·rw[yP,yM];omega
theorem qtg{t x:zU}(h:qdr t x a<0):(Go.Lib.cut (t.drop a) x).2.2=false:=by
 unfold qdr at h;split at h
 ·next q=>
  unfold Go.Lib.cut;rw[if_neg (by omega)]
 ·omega
theorem zhk{t:zU}(h:qdr t c.op a<0):c.step t a=.over (c.addText t a t.length):=qmh (qtg h)
theorem zhl{t:zU}(y:a<=t.length)(h:qdr t c.op a=o)(z:qdr t c.cl (o+c.op.length)<0):c.step t a=.slip 2 o:=by
 obtain⟨i,D,I,_,J⟩:=qpf y h;have e1:(Go.Lib.cut (t.drop a) c.op).1.length=i:=by rw[I];exact J
 have e2:(Go.Lib.cut (t.drop a) c.op).2.1=t.drop (o+c.op.length):=by rw[I]
 rw[qgt (by rw[I]) (by rw[e2];exact qtg z),e1,D]
def qh8(t:zU)(b z:Nat):zU:=(t.drop b).take (z - b)
theorem zia{t:zU}{z:Nat}(J:a<=t.length)(h:qdr t c.op a=o)(O:qdr t c.cl (o+c.op.length)=z)(l:Nat×Nat)
  (T:(if(qba (Go.Lib.trimS (qh8 t (o+c.op.length) z) qag)).kind≠2 then qel t o (z+c.cl.length)else(o,z+c.cl.length))=l) :
  c.step t a=if((c.addText t a l.1).take (qba (Go.Lib.trimS (qh8 t (o+c.op.length) z) qag)) o).1≠0 then .slip ((c.addText t a l.1).take (qba (Go.Lib.trimS (qh8 t (o+c.op.length) z) qag)) o).1 o
   else .next ((c.addText t a l.1).take (qba (Go.Lib.trimS (qh8 t (o+c.op.length) z) qag)) o).2 l.2:=by
 obtain⟨i,D,U,V,X⟩:=qpf J h;obtain⟨j,Y,y,_,I⟩:=qpf (by omega) O;have e1:(Go.Lib.cut (t.drop a) c.op).1.length=i:=by rw[U];exact X
 have e2:(Go.Lib.cut (t.drop a) c.op).2.1=t.drop (o+c.op.length):=by rw[U]
 have e3:(Go.Lib.cut (t.drop (o+c.op.length)) c.cl).1=qh8 t (o+c.op.length) z:=by
  rw[y];unfold qh8;rw[Y,Nat.add_sub_cancel_left]
 have e4:(Go.Lib.cut (t.drop (o+c.op.length)) c.cl).1.length=j:=by rw[y];exact I
 refine qpa (by rw[U]) (by rw[e2,y]) _ (by rw[e2,e3]) o (z+c.cl.length) (by rw[e1,D]) (by rw[e2,e4,Y]) l T
theorem q9r{t x:zU}(z:a<=t.length)(h:qdr t x a=o):a<=o/\o+x.length<=t.length:=by
 obtain⟨i,y,_,D,_⟩:=qpf z h;omega
theorem q3i(t x:zU)(a:Nat):qdr t x a=-1\/∃o:Nat,qdr t x a=o:=by
 unfold qdr;split
 ·exact .inl rfl
 ·next q=>exact .inr ⟨a+(Go.Lib.index (t.drop a) x).toNat,by omega⟩
end Pl
variable{c:Ct}{one:Tg}{o:Nat}
structure PaRd(w wr:World)(t:zU)(OP CL:zT)(parts:List Pt)(op:List Nat)(a:Nat)(L:List Rm)(vo vs:Value):Prop where
 at_:PaAt w wr L op vo vs
 of_:RmsOf L parts
 ok:CtOk t ⟨OP.data.toList,CL.data.toList,parts,op⟩ a
 eq:qam t=if((⟨OP.data.toList,CL.data.toList,parts,op⟩:Ct).rest t a).1.1=0 then((0,0),((⟨OP.data.toList,CL.data.toList,parts,op⟩:Ct).rest t a).2)else(((⟨OP.data.toList,CL.data.toList,parts,op⟩:Ct).rest t a).1,[])
theorem PaRd.next{w wr w':World}{t:zU}{OP CL OP' CL':zT}{parts:List Pt}{op:List Nat}{a:Nat}{L L':List Rm}{vo vs vo' vs':Value}(h:PaRd w wr t OP CL parts op a L vo vs){parts':List Pt}{op':List Nat}{b:Nat}
  (y:(⟨OP.data.toList,CL.data.toList,parts,op⟩:Ct).step t a=.next ⟨OP'.data.toList,CL'.data.toList,parts',op'⟩ b) (z:PaAt w w' L' op' vo' vs') (D:RmsOf L' parts'):PaRd w w' t OP' CL' parts' op' b L' vo' vs'/\a<b:=by
 obtain⟨I,J⟩:=qhj h.ok y;refine⟨⟨z,D,I,?_⟩,J⟩;rw[<-qw0 h.ok y];exact h.eq
theorem Pl.readTg_low(b:UInt8)(l:zU)(y:b≠33)(z:b≠61):(qba (b::l)).kind≠7/\(qba (b::l)).kind≠8:=by
 have e:qay (b::l)=if b=35 then 3 else if b=94 then 4 else if b=47 then 5 else if b=62 then 6 else 2:=by
  show(if b=33 then 7 else if b=61 then 8 else _)=_;rw[if_neg y,if_neg z]
 have key:∀(k:Nat) (n:zU),(qcc k n).kind=k:=by
  intro k n;unfold qcc;by_cases q:(if k=6 then qa4 n else isNm n)=true
  ·rw[if_pos q]
  ·rw[if_neg q]
 have h:qay (b::l)≠7/\qay (b::l)≠8:=by
  rw[e]
  repeat' split
  all_goals decide
 unfold qba;rw[if_neg h.1,if_neg h.2];split
 ·rw[key];decide
 ·rw[key];exact h
theorem Pl.take_plain(D:one.slip=0)(I:one.kind≠7)(J:one.kind≠8)(y:Pl.qb3 one.kind≠2)(z:Pl.qb3 one.kind≠3):c.take one o=(0,{ c with parts:=c.parts++[⟨one.kind,o,one.name,0⟩] }):=by
 unfold Ct.take;have q2:¬(one.kind=3\/one.kind=4):=fun h=>y (by rcases h with h|h<;>rw[h]<;>rfl)
 have q3:¬one.kind=5:=fun h=>z (by rw[h];rfl);rw[if_neg (by omega),if_neg I,if_neg J,if_neg q2,if_neg q3]
theorem Pl.take_open(z:one.slip=0)(y:Pl.qb3 one.kind=2):c.take one o=if c.opened.length=6 then(8,c)else(0,{ c with parts:=c.parts++[⟨one.kind,o,one.name,0⟩],opened:=c.opened++[c.parts.length] }):=by
 have q:one.kind=3\/one.kind=4:=by
  unfold Pl.qb3 at y;by_cases q:one.kind=3\/one.kind=4
  ·exact q
  ·rw[if_neg q]at y
   repeat' split at y
   all_goals omega
 unfold Ct.take;rw[if_neg (by omega),if_neg (by omega),if_neg (by omega),if_pos q]
theorem Pl.take_close(z:one.slip=0)(y:Pl.qb3 one.kind=3):c.take one o=match c.opened.getLast? with
  |none=>(5,c)
  |some m=>if qmg c.parts m≠one.name then(6,c)else(0,{ c with parts:=qbd c.parts m c.parts.length++[⟨5,o,one.name,m⟩],opened:=c.opened.dropLast }):=by
 have q:one.kind=5:=by
  unfold Pl.qb3 at y
  repeat' split at y
  all_goals omega
 unfold Ct.take;rw[if_neg (by omega),if_neg (by omega),if_neg (by omega),if_neg (by omega),if_pos q];cases c.opened.getLast?<;>rfl
theorem Pl.refKind_one(k:Nat):(Pl.qb3 k=1)=(k=2):=by
 unfold Pl.qb3;refine propext ⟨fun h=>?_,fun h=>by rw[h];rfl⟩
 repeat' split at h
 all_goals omega
end Go.Proofs.YtfkhljmiehdgmaaGreatDoor
