/-
  Steps of the proof.
-/
import Derived.Deep.OwnRows
import Derived.Deep.Onto
import Derived.Test.YtfkhljmiehdgmaaGreatDoorCmBK
import Derived.Test.YtfkhljmiehdgmaaGreatDoorCmAR
set_option maxRecDepth 100000
set_option maxHeartbeats 40000000
namespace Go.Proofs.YtfkhljmiehdgmaaGreatDoor
open Go.RowKit Go.Maps
namespace Pl
theorem qks:∀(Z:List (List UInt8×List UInt8)),(∀(i:Nat) z,Z[i]?=some z→(qam z.2).1.1=0)→qa4 Z=(Ft.none,Z.map fun z=>⟨z.1,(qam z.2).2⟩)
 | [],_=>rfl
 | (n,t)::l,h=>by
   have h0:(qam t).1.1=0:=h 0 (n,t) rfl;have ih:=qks l (fun i z hz=>h (i+1) z (by simpa using hz));unfold qa4;rw[if_neg (fun q=>q h0),ih,if_neg (by simp[Ft.none])];rfl
theorem qme:∀(Z:List (List UInt8×List UInt8)) (k:Nat) (z:List UInt8×List UInt8),(∀(i:Nat) y,i<k→Z[i]?=some y→(qam y.2).1.1=0)→Z[k]?=some z→(qam z.2).1.1≠0→qa4 Z=(⟨2,(qam z.2).1.1,z.1,(qam z.2).1.2⟩,[])
 | [],k,z,_,h,_=>by simp at h
 | (n,t)::l,0,z,_,h,hz=>by
   simp at h;subst h;exact qm6 hz
 | (n,t)::l,k+1,z,hk,h,hz=>by
   have h0:(qam t).1.1=0:=hk 0 (n,t) (by omega) rfl;have ih:=qme l k z (fun i y hi hy=>hk (i+1) y (by omega) (by simpa using hy)) (by simpa using h) hz;unfold qa4;rw[if_neg (fun q=>q h0),ih,if_pos (by simp)]
end Pl
theorem q5s{L:List (ByteArray×ByteArray)}{k:Nat}{x:ByteArray×ByteArray}(h:L[k]?=some x):(qaq L)[k]?=some (x.1.data.toList,x.2.data.toList):=by
 unfold qaq;rw[List.getElem?_map,h];rfl
theorem q5r{L:List (ByteArray×ByteArray)}{k:Nat}{z:List UInt8×List UInt8}(h:(qaq L)[k]?=some z):∃x,L[k]?=some x∧z=(x.1.data.toList,x.2.data.toList):=by
 unfold qaq at h;rw[List.getElem?_map]at h;obtain⟨x,h1,h2⟩:=Option.map_eq_some_iff.1 h;exact⟨x,h1,h2.symm⟩
structure CAi(w wr:World)(b g R:Nat)(LL:List (ByteArray×ByteArray))(f:Nat→Value)(k:Nat):Prop where
 ps:PsAt wr b LL
 blk:wr.rowIs g 173 (LL.length*2) f
 name:∀(i:Nat) x,i<k→LL[i]?=some x→f (i*2)=.string x.1
 row:∀(i:Nat) x,i<k→LL[i]?=some x→wr.ownsRow w.heap.size 229 4 (f (i*2+1)) (Pl.qam x.2.data.toList).2.length (qb0 (Pl.qam x.2.data.toList).2)
 res:wr.heap[R]?=some (.cells #[.int .i64 0,.int .i64 0,.string ⟨#[]⟩,.int .i64 0] 31 (0,0))
 below:Below w.heap.size w wr
 le:w.heap.size≤R∧w.heap.size≤g
 ne:b≠g
theorem CAi.next{w wr w':World}{b g R:Nat}{LL:List (ByteArray×ByteArray)}{f:Nat→Value}{k:Nat}(h:CAi w wr b g R LL f k)(hb:Below wr.heap.size wr w'):CAi w w' b g R LL f k:=
 ⟨⟨fun k x hx=>(hb.cell (p:=⟨b,k*2,none⟩) (World.block_lt_of_cell? _ _ (h.ps.name k x hx))).trans (h.ps.name k x hx),fun k x hx=>(hb.cell (p:=⟨b,k*2+1,none⟩) (World.block_lt_of_cell? _ _ (h.ps.text k x hx))).trans (h.ps.text k x hx)⟩,
  h.blk.of_block (hb.block _ h.blk.lt),h.name,fun i x hi hx=>qac (h.row i x hi hx) (fun q hq=>hb.block q ((h.row i x hi hx).lt q hq).2),(hb.block _ (lta h.res)).trans h.res,h.below.trans (hb.mono h.below.size),h.le,h.ne⟩
theorem qpr:(173:TypeId)≠229:=by decide
theorem CAi.put{w wr:World}{b g R:Nat}{LL:List (ByteArray×ByteArray)}{f:Nat→Value}{k:Nat}(h:CAi w wr b g R LL f k){x:ByteArray×ByteArray}(hx:LL[k]?=some x){v:Value}(hv:wr.ownsRow w.heap.size 229 4 v (Pl.qam x.2.data.toList).2.length (qb0 (Pl.qam x.2.data.toList).2)) :
  ∃f',CAi w ((wr.setCell ⟨g,k*2,none⟩ (.string x.1)).setCell ⟨g,k*2+1,none⟩ v) b g R LL f' (k+1):=by
 have ha:∀q,q≠g→((wr.setCell ⟨g,k*2,none⟩ (.string x.1)).setCell ⟨g,k*2+1,none⟩ v).heap[q]?=wr.heap[q]?:=fun q hq=>(Below.heap_setCell _ _ _ _ hq).trans (Below.heap_setCell _ _ _ _ hq);have Ha:∀ {u:Value} {n:Nat} {xs:List Value},wr.ownsRow w.heap.size 229 4 u n xs→((wr.setCell ⟨g,k*2,none⟩ (.string x.1)).setCell ⟨g,k*2+1,none⟩ v).ownsRow w.heap.size 229 4 u n xs:=fun hu=>qac hu fun q hq=>by
  obtain⟨cur,hc⟩:=qad hu q hq;obtain⟨c,hb,_,_⟩:=h.blk;exact ha q (qae hc hb qpr.symm)
 have Hb:R≠g:=by
  obtain⟨c,hb,_,_⟩:=h.blk;exact qae h.res hb qdj
 have Hc:=(h.blk.set (k*2) (.string x.1)).set (k*2+1) v;refine⟨_,⟨fun i y hy=>(World.cell?_of_block (w:=wr) (ha b h.ne)).trans (h.ps.name i y hy),fun i y hy=>(World.cell?_of_block (w:=wr) (ha b h.ne)).trans (h.ps.text i y hy)⟩,Hc,fun i y hi hy=>?_,fun i y hi hy=>?_,(ha R Hb).trans h.res,(h.below.setCell (p:=⟨g,k*2,none⟩) h.le.2 _).setCell (p:=⟨g,k*2+1,none⟩) h.le.2 _,h.le,h.ne⟩
 ·show (if i*2=k*2+1 then v else if i*2=k*2 then .string x.1 else f (i*2))=_
  rw[if_neg (by omega)];by_cases e:i=k
  ·subst e
   rw[if_pos rfl];rw[hx]at hy;obtain rfl:=Option.some.inj hy;rfl
  ·rw[if_neg (by omega)]
   exact h.name i y (by omega) hy
 ·show World.ownsRow _ _ _ _ (if i*2+1=k*2+1 then v else if i*2+1=k*2 then .string x.1 else f (i*2+1)) _ _
  by_cases e:i=k
  ·subst e
   rw[if_pos rfl];rw[hx]at hy;obtain rfl:=Option.some.inj hy;exact Ha hv
  ·rw[if_neg (by omega),if_neg (by omega)]
   exact Ha (h.row i y (by omega) hy)
theorem CAi.sources{w wr:World}{b g R:Nat}{LL:List (ByteArray×ByteArray)}{f:Nat→Value}(h:CAi w wr b g R LL f LL.length):SrcAt wr w.heap.size ⟨0,g,0,0,0,fun i=>f (i*2+1)⟩ ((qaq LL).map fun z=>⟨z.1,(Pl.qam z.2).2⟩):=by
 have hx:∀(i:Nat) (s:Pl.Src),((qaq LL).map fun z=>(⟨z.1,(Pl.qam z.2).2⟩:Pl.Src))[i]?=some s→∃x,LL[i]?=some x∧s=⟨x.1.data.toList,(Pl.qam x.2.data.toList).2⟩∧i<LL.length:=fun i s hs=>by
  rw[List.getElem?_map]at hs;obtain⟨z,h1,h2⟩:=Option.map_eq_some_iff.1 hs;obtain⟨x,h3,h4⟩:=q5r h1;exact⟨x,h3,by rw[←h2,h4],(List.getElem?_eq_some_iff.1 h3).1⟩
 obtain⟨c,hb,hc,_⟩:=h.blk;refine⟨⟨c,_,hb⟩,fun i s hs=>?_,fun i s hs=>?_,fun i s hs=>?_⟩
 ·obtain⟨x,h1,rfl,h3⟩:=hx i s hs
  show wr.cell? ⟨g,i*2,none⟩=_;rw[h.blk.cell (by omega),h.name i x h3 h1];rfl
 ·obtain⟨x,h1,rfl,h3⟩:=hx i s hs
  exact h.blk.cell (by omega)
 ·obtain⟨x,h1,rfl,h3⟩:=hx i s hs
  exact h.row i x h3 h1
theorem qq5(T:ByteArray)(v:Value)(L:List (ByteArray×ByteArray))(w:World)(hA:qpq w v L)(hL:L.length≤6)(hm:qay w)(hR:qdz T.data.toList)(Ht:∀p∈L,qdz p.2.data.toList)(hN:∀p∈L,p.1.size≤100000)(r:Pl.Ft×List Pl.Src)(hr:Pl.qa4 (([],T.data.toList)::qaq L)=r) :
  Calls Tryz.prog 44 #[.string T,v] w fun ed w'=>((r.1.code≠0→ed=.returned (.tuple #[.slice none 0 0,qkq r.1]))∧(r.1.code=0→∃g pv,ed=.returned (.tuple #[.slice (some ⟨g,0,none⟩) r.2.length r.2.length,qkq Pl.Ft.none])∧SrcAt w' w.heap.size ⟨0,g,0,0,0,pv⟩ r.2))∧Below w.heap.size w w':=by
 obtain⟨n,hn⟩:∃n,n=L.length+1:=⟨_,rfl⟩;have Hc:Below w.heap.size w ((w.alloc (.cells #[.int .i64 0,.int .i64 0,.string ⟨#[]⟩,.int .i64 0] 31)).alloc (.cells #[.string ⟨#[]⟩,.string T] 38)):=(ba _).alloc (by simp) _;have Ho:=qal (w.alloc (.cells #[.int .i64 0,.int .i64 0,.string ⟨#[]⟩,.int .i64 0] 31)) (.cells #[.string ⟨#[]⟩,.string T] 38) (w.heap.size+1) (by simp);obtain⟨b,cap,w2,He,Hg,Hi⟩:=all_append T v L w _ (w.heap.size+1) hA hL Hc (qaa Ho 0 _ rfl) (qaa Ho 1 _ rfl);rw[←hn]at He;have hj:((⟨#[]⟩,T)::L:List (ByteArray×ByteArray)).length=n:=by rw[hn];rfl
 have Hp:∀p∈((⟨#[]⟩,T)::L:List (ByteArray×ByteArray)),qdz p.2.data.toList∧p.1.size≤100000:=fun p hp=>by
  rcases List.mem_cons.1 hp with rfl | hp
  ·exact⟨hR,by show (0:Nat)≤100000;omega⟩
  ·exact⟨Ht p hp,hN p hp⟩
 have hZ:qaq ((⟨#[]⟩,T)::L)=([],T.data.toList)::qaq L:=rfl;rw[←hZ]at hr;have HA:=qwj n (by omega);have Hf:w2.heap[w.heap.size]?=some (.cells #[.int .i64 0,.int .i64 0,.string ⟨#[]⟩,.int .i64 0] 31 (0,0)):=(Hi.block _ (by simp<;>omega)).trans ((heap_alloc_old _ _ (by simp)).trans (heap_alloc_new _ _))
 have Hq:CAi w (w2.alloc (.cells (madeCells #[.string ⟨#[]⟩,.slice none 0 0] (n*2)) 173)) b w2.heap.size w.heap.size ((⟨#[]⟩,T)::L) (fun i=>if i % 2=0 then .string ⟨#[]⟩ else .slice none 0 0) 0:=by
  have hB:=(Hc.trans (Hi.mono Hc.size)).alloc (Hc.trans (Hi.mono Hc.size)).size (.cells (madeCells #[.string ⟨#[]⟩,.slice none 0 0] (n*2)) 173);have Hl:b<w2.heap.size:=World.block_lt_of_cell? _ _ (Hg.name 0 _ rfl);have hg:Below w2.heap.size w2 (w2.alloc (.cells (madeCells #[.string ⟨#[]⟩,.slice none 0 0] (n*2)) 173)):=ba _;refine⟨⟨fun k x hx=>(hg.cell (p:=⟨b,k*2,none⟩) Hl).trans (Hg.name k x hx),fun k x hx=>(hg.cell (p:=⟨b,k*2+1,none⟩) Hl).trans (Hg.text k x hx)⟩,?_,fun i x hi=>absurd hi (Nat.not_lt_zero _),fun i x hi=>absurd hi (Nat.not_lt_zero _),(heap_alloc_old _ _ (Array.getElem?_eq_some_iff.1 Hf).1).trans Hf,hB,⟨Nat.le_refl _,(Hc.trans (Hi.mono Hc.size)).size⟩,Nat.ne_of_lt Hl⟩;refine⟨_,heap_alloc_new _ _,by rw[size_madeCells,hj],fun i hi=>?_⟩;rw[hj]at hi;unfold madeCells;rw[Array.getElem?_map,Array.getElem?_range,if_pos hi];simp only[Option.map_some,Option.some.injEq];rcases Nat.mod_two_eq_zero_or_one i with e | e
  ·rw[if_pos e];show (#[Value.string ⟨#[]⟩,Value.slice none 0 0][i % 2]!)=_;rw[e];rfl
  ·rw[if_neg (by omega)];show (#[Value.string ⟨#[]⟩,Value.slice none 0 0][i % 2]!)=_;rw[e];rfl
 generalize ((⟨#[]⟩,T)::L:List (ByteArray×ByteArray))=LL at hj Hp hr Hq Hg;have HR:=(show Hid (Pl.qa4 (qaq LL)=r) from hr);have HB:=hd Hp;have Hm:=hd Hq;have HM:=(show Hid (qay w) from hm);have hF:(n:Int)≤7:=by omega
 have he:=hd hj;clear hA hL hm hR Ht hN hr Hc Ho Hg Hi hn hj Hp hZ Hf Hq;go_enter Tryz.func44,Tryz.ntmps44
 go_wp2_with (at_builtin;refine qls _ rfl _ _ 22 rfl _ _ _ w2 rfl rfl (He _) ?_)
 clear He HA;generalize w2.heap.size=g at Hm ⊢;generalize World.alloc w2 _=w3 at Hm ⊢;go_loopw [23] (fun i wr=>∃(k:Nat) (f:Nat→Value),k≤n∧i=.int .i64 k∧Hid (CAi w wr b g w.heap.size LL f k∧∀(i:Nat) y,i<k→(qaq LL)[i]?=some y→(Pl.qam y.2).1.1=0)) (fun i _=>n - (intOf i).toNat)
 case atStart=>exact⟨0,_,Nat.zero_le _,rfl,Hm.out,fun i y hi=>absurd hi (Nat.not_lt_zero _)⟩
 case round=>
  obtain⟨k,f,hk,rfl,HC⟩:=hrel;clear Hm;by_cases Hl:k<n
  ·have Hr:(k:Int)<(n:Int):=by omega
   have hC:=he.out;obtain⟨x,hx⟩:∃x,LL[k]?=some x:=⟨LL[k]'(by omega),List.getElem?_eq_getElem (by omega)⟩;have p0:wr.cell? ⟨b,k*2,none⟩=some (.string x.1):=HC.out.1.ps.name k x hx;have p1:wr.cell? ⟨b,k*2+1,none⟩=some (.string x.2):=HC.out.1.ps.text k x hx;obtain⟨hu,Hu⟩:=HB.out x (List.mem_of_getElem? hx);have Hv:=hd (fun w=>qu9 x.1 w Hu);have Ha:=hd (fun w hm=>qv9 x.2 w hm hu);have HX:=hd hx;have hw:=q5s hx;have Hs:=hd hw;clear hC hx hu Hu hw;obtain⟨N,X⟩:=x;simp only at p0 p1 Hv Ha HX Hs;obtain⟨sl,ht⟩:∃sl,sl=Pl.qam X.data.toList:=⟨_,rfl⟩;rw[←ht]at Ha;unfold qgu at Ha;have Hn:=hd ht;clear ht;go_wp2_with fail
   refine Calls.mono (Hv.out _) ?_;rintro ed w4 ⟨rfl,hg⟩;have ho:=(show Hid _ from(HC.out.1.next (ba (.cells #[.string N,.string X] 38))).next hg);have t1:w4.cell? ⟨wr.heap.size,1,none⟩=some (.string X):=qaa ((hg.block wr.heap.size (by simp)).trans (heap_alloc_new wr _)) 1 _ rfl;clear hg p0 p1;go_wp2_with fail
   have Hw:qay w4:=HM.out.below ho.out.below;refine Calls.mono (Ha.out _ Hw) ?_;rintro ed w5 ⟨⟨v5,rfl,Hb⟩,Hx⟩;have ha:=hd (ho.out.next Hx);have hD:=hd ho.out.below.size;clear Hx t1 ho Hw;by_cases hz:sl.1.1=0
   ·have HD:((sl.1.1:Int) != 0)=false:=by rw[hz];rfl
    have HF:(sl.1.1:Int)=0:=by omega
    obtain⟨ao5,cap5,rfl⟩:=qar (Hb hz);have Hj:=(show Hid _ from(Hb hz).mono hD.out);have g0:∀o,∃u,(w5.alloc o).cell? ⟨g,k*2,none⟩=some u:=fun o=>⟨_,(ha.out.next (ba o)).blk.cell (by have:=he.out;omega)⟩;have g1:∀o,∃u,(w5.alloc o).cell? ⟨g,k*2+1,none⟩=some u:=fun o=>⟨_,(ha.out.next (ba o)).blk.cell (by have:=he.out;omega)⟩;obtain⟨u0,g0⟩:∃u0,∀o,(w5.alloc o).cell? ⟨g,k*2,none⟩=some u0:=⟨_,fun o=>(ha.out.next (ba o)).blk.cell (by have:=he.out;omega)⟩;obtain⟨u1,g1⟩:∃u1,∀o,(w5.alloc o).cell? ⟨g,k*2+1,none⟩=some u1:=⟨_,fun o=>(ha.out.next (ba o)).blk.cell (by have:=he.out;omega)⟩;have z0:∀o,(w5.alloc o).frozen? ⟨g,k*2,none⟩=false:=fun o=>(ha.out.next (ba o)).blk.frozen _;have z1:∀o,(w5.alloc o).frozen? ⟨g,k*2+1,none⟩=false:=fun o=>(ha.out.next (ba o)).blk.frozen _;have HZ:=hd hz;clear Hb hz;go_wp2_with fail
    go_roundw
    case rel=>
     have hE:=HX.out;have HE:=qac Hj.out (w':=w5.alloc (.cells #[.int .i64 0,.int .i64 sl.1.2] 169)) (fun q hq=>heap_alloc_old _ _ (World.ownsRow.lt Hj.out q hq).2);obtain⟨f',hf⟩:=(ha.out.next (ba (.cells #[.int .i64 0,.int .i64 sl.1.2] 169))).put hE (v:=.slice ao5 sl.2.length cap5) (by show World.ownsRow _ _ _ _ _ (Pl.qam X.data.toList).2.length (qb0 (Pl.qam X.data.toList).2);rw[←Hn.out];exact HE);refine⟨k+1,f',by omega,by go_num,?_,fun i y hi hy=>?_⟩
     ·exact hf
     ·by_cases e:i=k
      ·subst e
       rw[Hs.out]at hy;obtain rfl:=Option.some.inj hy;show (Pl.qam X.data.toList).1.1=0;rw[←Hn.out];exact HZ.out
      ·exact HC.out.2 i y (by omega) hy
    case measure=>simp[intOf];omega
   ·have HD:((sl.1.1:Int) != 0)=true:=by rw[bne_iff_ne];omega
    have Hy:(⟨N.data.toList.toArray⟩:ByteArray)=N:=by cases N;simp
    have Hk:Hid (qkq r.1=.agg #[.int .i64 2,.int .i64 (sl.1.1:Nat),.string N,.int .i64 (sl.1.2:Nat)]∧r.1.code=2):=by
     have h1:=Pl.qme (qaq LL) k (N.data.toList,X.data.toList) HC.out.2 Hs.out (by show (Pl.qam X.data.toList).1.1≠0;rw[←Hn.out];exact hz);rw[HR.out]at h1;simp only[←Hn.out]at h1;show _∧_;rw[h1];refine⟨?_,rfl⟩;show Value.agg #[_,_,.string (⟨N.data.toList.toArray⟩:ByteArray),_]=_;rw[Hy];rfl
    have x0:∀o,(w5.alloc o).cell? ⟨w.heap.size,0,none⟩=some (.int .i64 0):=fun o=>qaa (ha.out.next (ba o)).res 0 _ rfl;have x1:∀o,(w5.alloc o).cell? ⟨w.heap.size,1,none⟩=some (.int .i64 0):=fun o=>qaa (ha.out.next (ba o)).res 1 _ rfl;have x2:∀o,(w5.alloc o).cell? ⟨w.heap.size,2,none⟩=some (.string ⟨#[]⟩):=fun o=>qaa (ha.out.next (ba o)).res 2 _ rfl;have x3:∀o,(w5.alloc o).cell? ⟨w.heap.size,3,none⟩=some (.int .i64 0):=fun o=>qaa (ha.out.next (ba o)).res 3 _ rfl;have y0:∀o,(w5.alloc o).frozen? ⟨w.heap.size,0,none⟩=false:=fun o=>by simp[World.frozen?,(ha.out.next (ba o)).res]
    have y1:∀o,(w5.alloc o).frozen? ⟨w.heap.size,1,none⟩=false:=fun o=>by simp[World.frozen?,(ha.out.next (ba o)).res]
    have y2:∀o,(w5.alloc o).frozen? ⟨w.heap.size,2,none⟩=false:=fun o=>by simp[World.frozen?,(ha.out.next (ba o)).res]
    have y3:∀o,(w5.alloc o).frozen? ⟨w.heap.size,3,none⟩=false:=fun o=>by simp[World.frozen?,(ha.out.next (ba o)).res]
    have Hz:=hd (ha.out.next (ba (.cells #[.int .i64 (sl.1.1:Nat),.int .i64 (sl.1.2:Nat)] 169)));clear Hb hz Hy;go_wp2_with fail
    go_region
    all_goals
     go_wp2_with fail
     have hf:=qg1 Hz.out.res (.int .i64 2) (.int .i64 (sl.1.1:Nat)) (.string N) (.int .i64 (sl.1.2:Nat));have hb:=(((Hz.out.below.setCell (p:=⟨w.heap.size,0,none⟩) (Nat.le_refl _) (.int .i64 2)).setCell (p:=⟨w.heap.size,1,none⟩) (Nat.le_refl _) (.int .i64 (sl.1.1:Nat))).setCell (p:=⟨w.heap.size,2,none⟩) (Nat.le_refl _) (.string N)).setCell (p:=⟨w.heap.size,3,none⟩) (Nat.le_refl _) (.int .i64 (sl.1.2:Nat));refine qex Tryz.results44 rfl w.heap.size (.slice none 0 0) _ rfl rfl hf _ Tryz.underlying31 rfl (by kernel_rfl) ?_;exact⟨⟨fun _=>by rw[Hk.out.1],fun q=>absurd q (by rw[Hk.out.2];omega)⟩,hb.drew⟩
  ·have Hr:¬(k:Int)<(n:Int):=by omega
   obtain rfl:k=n:=by omega
   have Hk:Hid (r=(Pl.Ft.none,(qaq LL).map fun z=>⟨z.1,(Pl.qam z.2).2⟩)):=by
    show _=_;rw[←HR.out];exact Pl.qks _ fun i z hz=>HC.out.2 i z (by have:=(List.getElem?_eq_some_iff.1 hz).1;unfold qaq at this;rw[List.length_map,he.out]at this;exact this) hz
   have HS:Hid (SrcAt wr w.heap.size ⟨0,g,0,0,0,fun i=>f (i*2+1)⟩ r.2∧r.2.length=k):=by
    have h1:=HC.out.1;rw[←he.out]at h1;show _∧_;rw[Hk.out];refine⟨h1.sources,?_⟩;unfold qaq;rw[List.length_map,List.length_map,he.out]
   have x0:wr.cell? ⟨w.heap.size,0,none⟩=some (.int .i64 0):=qaa HC.out.1.res 0 _ rfl;have x1:wr.cell? ⟨w.heap.size,1,none⟩=some (.int .i64 0):=qaa HC.out.1.res 1 _ rfl;have x2:wr.cell? ⟨w.heap.size,2,none⟩=some (.string ⟨#[]⟩):=qaa HC.out.1.res 2 _ rfl;have x3:wr.cell? ⟨w.heap.size,3,none⟩=some (.int .i64 0):=qaa HC.out.1.res 3 _ rfl;have y0:wr.frozen? ⟨w.heap.size,0,none⟩=false:=by simp[World.frozen?,HC.out.1.res]
   have y1:wr.frozen? ⟨w.heap.size,1,none⟩=false:=by simp[World.frozen?,HC.out.1.res]
   have y2:wr.frozen? ⟨w.heap.size,2,none⟩=false:=by simp[World.frozen?,HC.out.1.res]
   have y3:wr.frozen? ⟨w.heap.size,3,none⟩=false:=by simp[World.frozen?,HC.out.1.res]
   go_wp2_with fail
   have hf:=qg1 HC.out.1.res (.int .i64 0) (.int .i64 0) (.string ⟨#[]⟩) (.int .i64 0);have hb:=(((HC.out.1.below.setCell (p:=⟨w.heap.size,0,none⟩) (Nat.le_refl _) (.int .i64 0)).setCell (p:=⟨w.heap.size,1,none⟩) (Nat.le_refl _) (.int .i64 0)).setCell (p:=⟨w.heap.size,2,none⟩) (Nat.le_refl _) (.string ⟨#[]⟩)).setCell (p:=⟨w.heap.size,3,none⟩) (Nat.le_refl _) (.int .i64 0);have hl:∀q,q≠w.heap.size→((((wr.setCell ⟨w.heap.size,0,none⟩ (.int .i64 0)).setCell ⟨w.heap.size,1,none⟩ (.int .i64 0)).setCell ⟨w.heap.size,2,none⟩ (.string ⟨#[]⟩)).setCell ⟨w.heap.size,3,none⟩ (.int .i64 0)).heap[q]?=wr.heap[q]?:=fun q hq=>(Below.heap_setCell _ _ _ _ hq).trans ((Below.heap_setCell _ _ _ _ hq).trans ((Below.heap_setCell _ _ _ _ hq).trans (Below.heap_setCell _ _ _ _ hq)));refine qex Tryz.results44 rfl w.heap.size (.slice (some ⟨g,0,none⟩) k k) _ rfl rfl hf _ Tryz.underlying31 rfl (by kernel_rfl) ?_;refine⟨⟨fun q=>absurd (by rw[Hk.out];rfl) q,fun _=>⟨g,(by rw[HS.out.2];rfl),fun i=>f (i*2+1),SrcAt.kept HS.out.1 ?_ ?_⟩⟩,hb⟩
   ·obtain⟨cs,fz,hc⟩:=HS.out.1.blk
    exact hl _ (qae hc HC.out.1.res qdj.symm)
   ·intro i s q hs hv
    obtain⟨cur,hc⟩:=qad (HS.out.1.row i s hs) q hv;exact hl _ (qae hc HC.out.1.res qfb.symm)
end Go.Proofs.YtfkhljmiehdgmaaGreatDoor
namespace Go.Proofs.YtfkhljmiehdgmaaGreatDoor
open Go.RowKit
theorem qx3(w:World):PredGrows Tryz.prog 228 #[] qcj w:=fun W x hx _=>qxa x W hx
theorem qxg(s:ByteArray)(w:World)(hs:s.size≤100000) :
  Calls Tryz.prog 227 #[.string s,.func (.func 228) #[] #[]] w fun e w'=>∃A,e=.returned (.slice (some ⟨A,0,none⟩) (Lib.goFieldsP qcj s).length (Lib.goFieldsP qcj s).length)∧w.heap.size≤A ∧
   (∀j x,(Lib.goFieldsP qcj s)[j]?=some x→w'.cell? ⟨A,j,none⟩=some (.string x))∧Below w.heap.size w w':=by
 refine(Tryz.strings_FieldsFunc_grows 228 #[] (fun _ _=>by kernel_rfl) qcj s w (by omega) (qx3 w)).mono ?_;rintro e w' ⟨A,he,hA,ho,hb⟩;refine⟨A,he,hA,fun j x hj=>?_,hb⟩;have ha:j<(Lib.goFieldsP qcj s).length:=(List.getElem?_eq_some_iff.1 hj).1;rw[ho.cellAt j (by omega),List.getElem?_map,hj];rfl
def rdTg:List (List UInt8)→Pl.Tg
 | [a,b]=>if Pl.qd5 a=true∧Pl.qd5 b=true then⟨8,0,[],a,b⟩ else⟨8,4,[],[],[]⟩
 | _=>⟨8,4,[],[],[]⟩
theorem q5l(l:List (List UInt8))(h:l.length≠2):rdTg l=⟨8,4,[],[],[]⟩:=by
 match l,h with
 | [],_=>rfl
 | [_],_=>rfl
 | [_,_],h=>exact absurd rfl h
 | _::_::_::_,_=>rfl
theorem q23(c:List UInt8):Pl.qc9 c=if Lib.hasSuffix (c.drop 1) [61]=false then⟨8,4,[],[],[]⟩ else rdTg (Pl.qfo (Lib.trimSuffix (c.drop 1) [61])):=rfl
theorem qpu(s:ByteArray)(w:World)(I:ByteArray)(b:Bool)(F:List ByteArray)(r:Pl.Tg)(hs:s.size≠0)
  (hC:∀w,Calls Tryz.prog 226 #[.string (s.extract 1 s.size),.string ⟨#[61]⟩] w fun e w'=>e=.returned (.tuple #[.string I,.bool b])∧w=w')
  (hF:∀w,Calls Tryz.prog 227 #[.string I,.func (.func 228) #[] #[]] w fun e w'=>∃A,e=.returned (.slice (some ⟨A,0,none⟩) F.length F.length)∧w.heap.size≤A ∧
   (∀j x,F[j]?=some x→w'.cell? ⟨A,j,none⟩=some (.string x))∧Below w.heap.size w w')
  (hr:r=if b=false then⟨8,4,[],[],[]⟩ else rdTg (F.map (·.data.toList))) :
  Calls Tryz.prog 194 #[.string s] w fun e w'=>e=.returned (qea r)∧Below w.heap.size w w':=by
 have HC:=hd hC;have HF:=hd hF;have HD:=hd qw9;have c1:(1:Int)≤(s.size:Int):=by omega
 clear hC hF hs;by_cases hb:b=false
 ·subst hb
  simp only[if_true]at hr;subst hr;go_enter Tryz.func194,Tryz.ntmps194
  go_wp2_with (first
   | (go_at_call 226;refine Calls.mono (HC.out _) ?_;rintro e w' ⟨rfl,rfl⟩)
   | (go_at_call 227;refine Calls.mono (HF.out _) ?_;rintro e w' ⟨A,rfl,hA,hK,hb⟩;have hS:=(qd3 w).next hb;obtain⟨⟨k0,k1,k2,k3,k4⟩,f0,f1,f2,f3,f4⟩:=hS.facts;have HS:=hd hS;clear hb hS hK))
  exact qgh (w0:=w) ⟨8,4,[],[],[]⟩ Tryz.results194 rfl rfl HS.out rfl
 obtain rfl:b=true:=by simpa using hb
 clear hb;simp only[Bool.true_eq_false,if_false]at hr;by_cases hn:F.length=2
 rotate_left
 ·have ha:r=⟨8,4,[],[],[]⟩:=by
   rw[hr];exact q5l _ (by rw[List.length_map];exact hn)
  have hc:((F.length:Int) != 2)=true:=by rw[bne_iff_ne];omega
  have Ha:¬(F.length:Int)=2:=by omega
  clear hr;subst ha;generalize F.length=n at HF hc Ha;clear hn;go_enter Tryz.func194,Tryz.ntmps194
  go_wp2_with (first
   | (go_at_call 226;refine Calls.mono (HC.out _) ?_;rintro e w' ⟨rfl,rfl⟩)
   | (go_at_call 227;refine Calls.mono (HF.out _) ?_;rintro e w' ⟨A,rfl,hA,hK,hb⟩;have hS:=(qd3 w).next hb;obtain⟨⟨k0,k1,k2,k3,k4⟩,f0,f1,f2,f3,f4⟩:=hS.facts;have HS:=hd hS;clear hb hS hK))
  exact qgh (w0:=w) ⟨8,4,[],[],[]⟩ Tryz.results194 rfl rfl HS.out rfl
 obtain⟨x,y,rfl⟩:∃x y,F=[x,y]:=by
  match F,hn with
  | [x,y],_=>exact⟨x,y,rfl⟩
 simp only[List.map_cons,List.map_nil,rdTg]at hr
 have Hb:Hid (∀w,Calls Tryz.prog 227 #[.string I,.func (.func 228) #[] #[]] w fun e w'=>∃A,e=.returned (.slice (some ⟨A,0,none⟩) 2 2)∧w.heap.size≤A ∧
   (w'.cell? ⟨A,0,none⟩=some (.string x)∧w'.cell? ⟨A,1,none⟩=some (.string y))∧Below w.heap.size w w'):=fun w=>(HF.out w).mono (by
  rintro e w' ⟨A,he,hA,hK,hb⟩;exact⟨A,he,hA,⟨hK 0 x rfl,hK 1 y rfl⟩,hb⟩)
 clear HF hn;by_cases h1:Pl.qd5 x.data.toList=true
 rotate_left
 ·have h1:=Bool.eq_false_iff.2 h1
  have ha:r=⟨8,4,[],[],[]⟩:=by rw[hr,h1];simp
  clear hr;subst ha;have HX:Hid (∀w,Calls Tryz.prog 229 #[.string x] w fun e w'=>e=.returned (.bool false)∧w=w'):=fun w=>h1▸HD.out x w;clear h1 HD;go_enter Tryz.func194,Tryz.ntmps194
  go_wp2_with (first
   | (go_at_call 226;refine Calls.mono (HC.out _) ?_;rintro e w' ⟨rfl,rfl⟩)
   | (go_at_call 227;refine Calls.mono (Hb.out _) ?_;rintro e w' ⟨A,rfl,hA,⟨Hc,He⟩,hb⟩;have hS:=(qd3 w).next hb;obtain⟨⟨k0,k1,k2,k3,k4⟩,f0,f1,f2,f3,f4⟩:=hS.facts;have HS:=hd hS;clear hb hS)
   | (go_at_call 229;refine Calls.mono (HX.out _) ?_;rintro e w'' ⟨rfl,rfl⟩))
  exact qgh (w0:=w) ⟨8,4,[],[],[]⟩ Tryz.results194 rfl rfl HS.out rfl
 have HX:Hid (∀w,Calls Tryz.prog 229 #[.string x] w fun e w'=>e=.returned (.bool true)∧w=w'):=fun w=>h1▸HD.out x w;by_cases h2:Pl.qd5 y.data.toList=true
 rotate_left
 ·have h2:=Bool.eq_false_iff.2 h2
  have ha:r=⟨8,4,[],[],[]⟩:=by rw[hr,h2];simp
  clear hr;subst ha;obtain⟨dl,h1,h2,HZ⟩:∃dl:ByteArray→Bool,dl x=true∧dl y=false∧Hid (∀(z:ByteArray) (w:World),Calls Tryz.prog 229 #[.string z] w fun e w'=>e=.returned (.bool (dl z))∧w=w'):=⟨fun z=>Pl.qd5 z.data.toList,h1,h2,fun z w=>HD.out z w⟩;clear HD HX;go_enter Tryz.func194,Tryz.ntmps194
  go_wp2_with (first
   | (go_at_call 226;refine Calls.mono (HC.out _) ?_;rintro e w' ⟨rfl,rfl⟩)
   | (go_at_call 227;refine Calls.mono (Hb.out _) ?_;rintro e w' ⟨A,rfl,hA,⟨Hc,He⟩,hb⟩;have hS:=(qd3 w).next hb;obtain⟨⟨k0,k1,k2,k3,k4⟩,f0,f1,f2,f3,f4⟩:=hS.facts;have HS:=hd hS;clear hb hS)
   | (go_at_call 229;refine Calls.mono (HZ.out _ _) ?_;rintro e w'' ⟨rfl,rfl⟩;first | rw[h1] | rw[h2]))
  exact qgh (w0:=w) ⟨8,4,[],[],[]⟩ Tryz.results194 rfl rfl HS.out rfl
 have ha:r=⟨8,0,[],x.data.toList,y.data.toList⟩:=by rw[hr,h1,h2];simp
 obtain⟨dl,h1,h2,HZ⟩:∃dl:ByteArray→Bool,dl x=true∧dl y=true∧Hid (∀(z:ByteArray) (w:World),Calls Tryz.prog 229 #[.string z] w fun e w'=>e=.returned (.bool (dl z))∧w=w'):=⟨fun z=>Pl.qd5 z.data.toList,h1,h2,fun z w=>HD.out z w⟩;clear hr HD HX;subst ha;have HV:Hid (#[Value.int .i64 8,.int .i64 0,.string ⟨#[]⟩,.string x,.string y]=qlv ⟨8,0,[],x.data.toList,y.data.toList⟩):=rfl;go_enter Tryz.func194,Tryz.ntmps194
 go_wp2_with (first
   | (go_at_call 226;refine Calls.mono (HC.out _) ?_;rintro e w' ⟨rfl,rfl⟩)
   | (go_at_call 227;refine Calls.mono (Hb.out _) ?_;rintro e w' ⟨A,rfl,hA,⟨Hc,He⟩,hb⟩;have hS:=(qd3 w).next hb;obtain⟨⟨k0,k1,k2,k3,k4⟩,f0,f1,f2,f3,f4⟩:=hS.facts;have HS:=hd hS;clear hb hS)
   | (go_at_call 229;refine Calls.mono (HZ.out _ _) ?_;rintro e w'' ⟨rfl,rfl⟩;first | rw[h1] | rw[h2]))
 have hc:A≠w.heap.size:=by
  have hf:∀o:Obj,(w.alloc o).heap.size=w.heap.size+1:=fun o=>by unfold World.alloc;simp only[Array.size_push]
  rw[hf]at hA;omega
 clear hA;go_region
 go_wp2_with fail
 exact qoa (w0:=w) (r:=⟨8,0,[],x.data.toList,y.data.toList⟩) Tryz.results194 rfl rfl (by rw[←HV.out];exact qun HS.out.blk _ _ _ _ _) (qmq HS.out.below (Nat.le_refl _) _ _ _ _ _).drew
theorem zan(s:ByteArray):(s.extract 1 s.size).data.toList=s.data.toList.drop 1:=by
 rw[Lib.extract_eq];show List.take _ _=_;exact List.take_of_length_le (by simp)
theorem qpv(s:ByteArray)(w:World)(hs:s.size≠0)(hl:s.size≤100000) :
  Calls Tryz.prog 194 #[.string s] w fun e w'=>e=.returned (qea (Pl.qc9 s.data.toList))∧Below w.heap.size w w':=by
 have hx:=zan s;have ha:(s.extract 1 s.size).size≤s.size:=by simp
 have hI:(⟨(Lib.trimSuffix (s.data.toList.drop 1) [61]).toArray⟩:ByteArray).size≤100000:=by
  show (Lib.trimSuffix (s.data.toList.drop 1) [61]).length≤_;have h3:s.data.toList.length=s.size:=by simp
  unfold Lib.trimSuffix;split<;>simp<;>omega
 have hw:=qur ⟨(Lib.trimSuffix (s.data.toList.drop 1) [61]).toArray⟩;refine qpu s w ⟨(Lib.trimSuffix (s.data.toList.drop 1) [61]).toArray⟩ (Lib.hasSuffix (s.data.toList.drop 1) [61]) (Lib.goFieldsP qcj ⟨(Lib.trimSuffix (s.data.toList.drop 1) [61]).toArray⟩) _ hs (fun w=>?_) (fun w=>qxg _ w hI) ?_
 ·refine(Tryz.strings_CutSuffix (s.extract 1 s.size) ⟨#[61]⟩ w (by omega)).mono ?_
  rintro e w' ⟨rfl,rfl⟩;rw[hx];exact⟨rfl,rfl⟩
 ·rw[q23,←hw]
theorem qwk(s:ByteArray)(w:World)(hs:s.size≤100000)(h8:Pl.qa0 s.data.toList=8) :
  Calls Tryz.prog 149 #[.string s] w fun e w'=>e=.returned (qea (Pl.qa9 s.data.toList))∧Below w.heap.size w w':=by
 have ha:s.size≠0:=fun q=>by
  have:s.data.toList=[]:=by
   apply List.eq_nil_of_length_eq_zero;simpa using q
  rw[this]at h8;exact absurd h8 (by decide)
 have HV:Pl.qa9 s.data.toList=Pl.qc9 s.data.toList:=by unfold Pl.qa9;rw[h8];rfl
 rw[HV];have HR:Hid (#[Value.int .i64 (Pl.qc9 s.data.toList).kind,.int .i64 (Pl.qc9 s.data.toList).slip,bs (Pl.qc9 s.data.toList).name,bs (Pl.qc9 s.data.toList).op,bs (Pl.qc9 s.data.toList).cl]=qlv (Pl.qc9 s.data.toList)):=rfl;have HN:=hd (fun w=>qpv s w ha hs);have HK:=hd (fun w=>h8▸qgi s w);clear HV h8 ha hs;generalize Pl.qc9 s.data.toList=r at HN HR ⊢;unfold qea at HN;unfold bs at HN HR;generalize (r.kind:Int)=r0 at HN HR;generalize (r.slip:Int)=r1 at HN HR;generalize (⟨r.name.toArray⟩:ByteArray)=r2 at HN HR;generalize (⟨r.op.toArray⟩:ByteArray)=r3 at HN HR;generalize (⟨r.cl.toArray⟩:ByteArray)=r4 at HN HR;go_enter Tryz.func149,Tryz.ntmps149
 go_wp2_with (first
   | (go_at_call 193;refine Calls.mono (HK.out _) ?_;rintro e w' ⟨rfl,rfl⟩)
   | (go_at_call 194;refine Calls.mono (HN.out _) ?_;rintro e w' ⟨rfl,hb⟩;have hS:=(qd3 w).next hb;obtain⟨⟨k0,k1,k2,k3,k4⟩,f0,f1,f2,f3,f4⟩:=hS.facts;have HS:=hd hS;clear hb hS))
 exact qgh (w0:=w) r Tryz.results149 rfl rfl HS.out HR.out
theorem qmu(t:List UInt8):qdz t:=by
 intro L w hL hm hw;by_cases h8:Pl.qa0 L=8
 ·exact qwk ⟨L.toArray⟩ w (by rw[qbz];omega) h8
 ·exact q0g ⟨L.toArray⟩ w (by rw[qbz];omega) hw h8
end Go.Proofs.YtfkhljmiehdgmaaGreatDoor
