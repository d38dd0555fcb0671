/-
  Steps of the proof.
-/
import Derived.Test.YtfkhljmiehdgmaaGreatDoorCmBL
import Derived.Test.YtfkhljmiehdgmaaGreatDoorCmBE
import Derived.Test.YtfkhljmiehdgmaaGreatDoorCmBI
import Derived.Laws.CopyRow
import Derived.Test.YtfkhljmiehdgmaaGreatDoorCmAJ
set_option maxRecDepth 100000
set_option maxHeartbeats 40000000
namespace Go.Proofs.YtfkhljmiehdgmaaGreatDoor
open Go.RowKit Go.Maps
theorem qrd(T:ByteArray)(v:Value)(L:List (ByteArray×ByteArray))(w:World)(hA:qpx w v L)(hL:L.length<=6)(hm:qaz w)(hR:qd2 T.data.toList)(Ht:∀p∈L,qd2 p.2.data.toList)(hN:∀p∈L,p.1.size<=100000)(r:Pl.Ft×List Pl.Src)(hr:Pl.qa4 (([],T.data.toList)::qaq L)=r) :
  Calls Tryz.prog 44 #[.string T,v] w fun ed w'=>((r.1.code≠0->ed=.returned (.tuple #[.slice none 0 0,qku r.1]))/\(r.1.code=0->∃g pv,ed=.returned (.tuple #[.slice (some ⟨g,0,none⟩) r.2.length r.2.length,qku Pl.Ft.none])/\SrcAt w' w.heap.size ⟨0,g,0,0,0,pv⟩ r.2))/\Below w.heap.size w w':=by
 obtain⟨n,hn⟩:∃n,n=L.length+1:=⟨_,rfl⟩;have Hc:Below w.heap.size w ((w.alloc (.cells #[.int .i64 0,.int .i64 0,.string ⟨#[]⟩,.int .i64 0] 31)).alloc (.cells #[.string ⟨#[]⟩,.string T] 38)):=(ba _).alloc (by simp) _;have Ho:=qal (w.alloc (.cells #[.int .i64 0,.int .i64 0,.string ⟨#[]⟩,.int .i64 0] 31)) (.cells #[.string ⟨#[]⟩,.string T] 38) (w.heap.size+1) (by simp);obtain⟨b,cap,w2,He,Hg,Hi⟩:=all_append T v L w _ (w.heap.size+1) hA hL Hc (qaa Ho 0 _ rfl) (qaa Ho 1 _ rfl);rw[<-hn]at He;have hj:((⟨#[]⟩,T)::L:List (ByteArray×ByteArray)).length=n:=by rw[hn];rfl
 have Hp:∀p∈((⟨#[]⟩,T)::L:List (ByteArray×ByteArray)),qd2 p.2.data.toList/\p.1.size<=100000:=fun p hp=>by
  rcases List.mem_cons.1 hp with rfl|hp
  ·exact⟨hR,by show(0:Nat)<=100000;omega⟩
  ·exact⟨Ht p hp,hN p hp⟩
 have hZ:qaq ((⟨#[]⟩,T)::L)=([],T.data.toList)::qaq L:=rfl;rw[<-hZ]at hr;have HA:=qwx n (by omega);have Hf:w2.heap[w.heap.size]?=some (.cells #[.int .i64 0,.int .i64 0,.string ⟨#[]⟩,.int .i64 0] 31 (0,0)):=(Hi.block _ (by simp<;>omega)).trans ((heap_alloc_old _ _ (by simp)).trans (heap_alloc_new _ _))
 have Hq:CAi w (w2.alloc (.cells (madeCells #[.string ⟨#[]⟩,.slice none 0 0] (n*2)) 173)) b w2.heap.size w.heap.size ((⟨#[]⟩,T)::L) (fun i=>if i % 2=0 then .string ⟨#[]⟩else .slice none 0 0) 0:=by
  have hB:=(Hc.trans (Hi.mono Hc.size)).alloc (Hc.trans (Hi.mono Hc.size)).size (.cells (madeCells #[.string ⟨#[]⟩,.slice none 0 0] (n*2)) 173);have Hl:b<w2.heap.size:=World.block_lt_of_cell? _ _ (Hg.name 0 _ rfl);have hg:Below w2.heap.size w2 (w2.alloc (.cells (madeCells #[.string ⟨#[]⟩,.slice none 0 0] (n*2)) 173)):=ba _;refine⟨⟨fun k x hx=>(hg.cell (p:=⟨b,k*2,none⟩) Hl).trans (Hg.name k x hx),fun k x hx=>(hg.cell (p:=⟨b,k*2+1,none⟩) Hl).trans (Hg.text k x hx)⟩,?_,fun i x hi=>absurd hi (Nat.not_lt_zero _),fun i x hi=>absurd hi (Nat.not_lt_zero _),(heap_alloc_old _ _ (Array.getElem?_eq_some_iff.1 Hf).1).trans Hf,hB,⟨Nat.le_refl _,(Hc.trans (Hi.mono Hc.size)).size⟩,Nat.ne_of_lt Hl⟩;refine⟨_,heap_alloc_new _ _,by rw[size_madeCells,hj],fun i hi=>?_⟩;rw[hj]at hi;unfold madeCells;rw[Array.getElem?_map,Array.getElem?_range,if_pos hi];simp only[Option.map_some,Option.some.injEq];rcases Nat.mod_two_eq_zero_or_one i with e|e
  ·rw[if_pos e];show(#[Value.string ⟨#[]⟩,Value.slice none 0 0][i % 2]!)=_;rw[e];rfl
  ·rw[if_neg (by omega)];show(#[Value.string ⟨#[]⟩,Value.slice none 0 0][i % 2]!)=_;rw[e];rfl
 generalize ((⟨#[]⟩,T)::L:List (ByteArray×ByteArray))=LL at hj Hp hr Hq Hg;have HR:=(show Hid (Pl.qa4 (qaq LL)=r)from hr);have HB:=hd Hp;have Hm:=hd Hq;have HM:=(show Hid (qaz w)from hm);have hF:(n:Int)<=7:=by omega
 have he:=hd hj;clear hA hL hm hR Ht hN hr Hc Ho Hg Hi hn hj Hp hZ Hf Hq;go_enter Tryz.func44,Tryz.ntmps44
 go_wp2_with (at_builtin;refine qly _ rfl _ _ 22 rfl _ _ _ w2 rfl rfl (He _) ?_)
 clear He HA;generalize w2.heap.size=g at Hm |-;generalize World.alloc w2 _=w3 at Hm |-;go_loopw [23] (fun i wr=>∃(k:Nat) (f:Nat->Value),k<=n/\i=.int .i64 k/\Hid (CAi w wr b g w.heap.size LL f k/\∀(i:Nat) y,i<k->(qaq LL)[i]?=some y->(Pl.qam y.2).1.1=0)) (fun i _=>n - (intOf i).toNat)
 case atStart=>exact⟨0,_,Nat.zero_le _,rfl,Hm.out,fun i y hi=>absurd hi (Nat.not_lt_zero _)⟩
 case round=>
  obtain⟨k,f,hk,rfl,HC⟩:=hrel;clear Hm;by_cases Hl:k<n
  ·have Hr:(k:Int)<(n:Int):=by omega
   have hC:=he.out;obtain⟨x,hx⟩:∃x,LL[k]?=some x:=⟨LL[k]'(by omega),List.getElem?_eq_getElem (by omega)⟩;have p0:wr.cell? ⟨b,k*2,none⟩=some (.string x.1):=HC.out.1.ps.name k x hx;have p1:wr.cell? ⟨b,k*2+1,none⟩=some (.string x.2):=HC.out.1.ps.text k x hx;obtain⟨hu,Hu⟩:=HB.out x (List.mem_of_getElem? hx);have Hv:=hd (fun w=>qvn x.1 w Hu);have Ha:=hd (fun w hm=>qwn x.2 w hm hu);have HX:=hd hx;have hw:=q58 hx;have Hs:=hd hw;clear hC hx hu Hu hw;obtain⟨N,X⟩:=x;simp only at p0 p1 Hv Ha HX Hs;obtain⟨sl,ht⟩:∃sl,sl=Pl.qam X.data.toList:=⟨_,rfl⟩;rw[<-ht]at Ha;unfold qgx at Ha;have Hn:=hd ht;clear ht;go_wp2_with fail
   refine Calls.mono (Hv.out _) ?_;rintro ed w4 ⟨rfl,hg⟩;have ho:=(show Hid _ from(HC.out.1.next (ba (.cells #[.string N,.string X] 38))).next hg);have t1:w4.cell? ⟨wr.heap.size,1,none⟩=some (.string X):=qaa ((hg.block wr.heap.size (by simp)).trans (heap_alloc_new wr _)) 1 _ rfl;clear hg p0 p1;go_wp2_with fail
   have Hw:qaz w4:=HM.out.below ho.out.below;refine Calls.mono (Ha.out _ Hw) ?_;rintro ed w5 ⟨⟨v5,rfl,Hb⟩,Hx⟩;have ha:=hd (ho.out.next Hx);have hD:=hd ho.out.below.size;clear Hx t1 ho Hw;by_cases hz:sl.1.1=0
   ·have HD:((sl.1.1:Int) != 0)=false:=by rw[hz];rfl
    have HF:(sl.1.1:Int)=0:=by omega
    obtain⟨ao5,cap5,rfl⟩:=qas (Hb hz);have Hj:=(show Hid _ from(Hb hz).mono hD.out);have g0:∀o,∃u,(w5.alloc o).cell? ⟨g,k*2,none⟩=some u:=fun o=>⟨_,(ha.out.next (ba o)).blk.cell (by have:=he.out;omega)⟩;have g1:∀o,∃u,(w5.alloc o).cell? ⟨g,k*2+1,none⟩=some u:=fun o=>⟨_,(ha.out.next (ba o)).blk.cell (by have:=he.out;omega)⟩;obtain⟨u0,g0⟩:∃u0,∀o,(w5.alloc o).cell? ⟨g,k*2,none⟩=some u0:=⟨_,fun o=>(ha.out.next (ba o)).blk.cell (by have:=he.out;omega)⟩;obtain⟨u1,g1⟩:∃u1,∀o,(w5.alloc o).cell? ⟨g,k*2+1,none⟩=some u1:=⟨_,fun o=>(ha.out.next (ba o)).blk.cell (by have:=he.out;omega)⟩;have z0:∀o,(w5.alloc o).frozen? ⟨g,k*2,none⟩=false:=fun o=>(ha.out.next (ba o)).blk.frozen _;have z1:∀o,(w5.alloc o).frozen? ⟨g,k*2+1,none⟩=false:=fun o=>(ha.out.next (ba o)).blk.frozen _;have HZ:=hd hz;clear Hb hz;go_wp2_with fail
    go_roundw
    case rel=>
     have hE:=HX.out;have HE:=qac Hj.out (w':=w5.alloc (.cells #[.int .i64 0,.int .i64 sl.1.2] 169)) (fun q hq=>heap_alloc_old _ _ (World.ownsRow.lt Hj.out q hq).2);obtain⟨f',hf⟩:=(ha.out.next (ba (.cells #[.int .i64 0,.int .i64 sl.1.2] 169))).put hE (v:=.slice ao5 sl.2.length cap5) (by show World.ownsRow _ _ _ _ _ (Pl.qam X.data.toList).2.length (qb0 (Pl.qam X.data.toList).2);rw[<-Hn.out];exact HE);refine⟨k+1,f',by omega,by go_num,?_,fun i y hi hy=>?_⟩
     ·exact hf
     ·by_cases e:i=k
      ·subst e
       rw[Hs.out]at hy;obtain rfl:=Option.some.inj hy;show(Pl.qam X.data.toList).1.1=0;rw[<-Hn.out];exact HZ.out
      ·exact HC.out.2 i y (by omega) hy
    case measure=>simp[intOf];omega
   ·have HD:((sl.1.1:Int) != 0)=true:=by rw[bne_iff_ne];omega
    have Hy:(⟨N.data.toList.toArray⟩:ByteArray)=N:=by cases N;simp
    have Hk:Hid (qku r.1=.agg #[.int .i64 2,.int .i64 (sl.1.1:Nat),.string N,.int .i64 (sl.1.2:Nat)]/\r.1.code=2):=by
     have h1:=Pl.qmk (qaq LL) k (N.data.toList,X.data.toList) HC.out.2 Hs.out (by show(Pl.qam X.data.toList).1.1≠0;rw[<-Hn.out];exact hz);rw[HR.out]at h1;simp only[<-Hn.out]at h1;show _/\_;rw[h1];refine⟨?_,rfl⟩;show Value.agg #[_,_,.string (⟨N.data.toList.toArray⟩:ByteArray),_]=_;rw[Hy];rfl
    have x0:∀o,(w5.alloc o).cell? ⟨w.heap.size,0,none⟩=some (.int .i64 0):=fun o=>qaa (ha.out.next (ba o)).res 0 _ rfl;have x1:∀o,(w5.alloc o).cell? ⟨w.heap.size,1,none⟩=some (.int .i64 0):=fun o=>qaa (ha.out.next (ba o)).res 1 _ rfl;have x2:∀o,(w5.alloc o).cell? ⟨w.heap.size,2,none⟩=some (.string ⟨#[]⟩):=fun o=>qaa (ha.out.next (ba o)).res 2 _ rfl;have x3:∀o,(w5.alloc o).cell? ⟨w.heap.size,3,none⟩=some (.int .i64 0):=fun o=>qaa (ha.out.next (ba o)).res 3 _ rfl;have y0:∀o,(w5.alloc o).frozen? ⟨w.heap.size,0,none⟩=false:=fun o=>by simp[World.frozen?,(ha.out.next (ba o)).res]
    have y1:∀o,(w5.alloc o).frozen? ⟨w.heap.size,1,none⟩=false:=fun o=>by simp[World.frozen?,(ha.out.next (ba o)).res]
    have y2:∀o,(w5.alloc o).frozen? ⟨w.heap.size,2,none⟩=false:=fun o=>by simp[World.frozen?,(ha.out.next (ba o)).res]
    have y3:∀o,(w5.alloc o).frozen? ⟨w.heap.size,3,none⟩=false:=fun o=>by simp[World.frozen?,(ha.out.next (ba o)).res]
    have Hz:=hd (ha.out.next (ba (.cells #[.int .i64 (sl.1.1:Nat),.int .i64 (sl.1.2:Nat)] 169)));clear Hb hz Hy;go_wp2_with fail
    go_region
    all_goals
     go_wp2_with fail
     have hf:=qg3 Hz.out.res (.int .i64 2) (.int .i64 (sl.1.1:Nat)) (.string N) (.int .i64 (sl.1.2:Nat));have hb:=(((Hz.out.below.setCell (p:=⟨w.heap.size,0,none⟩) (Nat.le_refl _) (.int .i64 2)).setCell (p:=⟨w.heap.size,1,none⟩) (Nat.le_refl _) (.int .i64 (sl.1.1:Nat))).setCell (p:=⟨w.heap.size,2,none⟩) (Nat.le_refl _) (.string N)).setCell (p:=⟨w.heap.size,3,none⟩) (Nat.le_refl _) (.int .i64 (sl.1.2:Nat));refine qe0 Tryz.results44 rfl w.heap.size (.slice none 0 0) _ rfl rfl hf _ Tryz.underlying31 rfl (by kernel_rfl) ?_;exact⟨⟨fun _=>by rw[Hk.out.1],fun q=>absurd q (by rw[Hk.out.2];omega)⟩,hb.drew⟩
  ·have Hr:¬(k:Int)<(n:Int):=by omega
   obtain rfl:k=n:=by omega
   have Hk:Hid (r=(Pl.Ft.none,(qaq LL).map fun z=>⟨z.1,(Pl.qam z.2).2⟩)):=by
    show _=_;rw[<-HR.out];exact Pl.qkw _ fun i z hz=>HC.out.2 i z (by have:=(List.getElem?_eq_some_iff.1 hz).1;unfold qaq at this;rw[List.length_map,he.out]at this;exact this) hz
   have HS:Hid (SrcAt wr w.heap.size ⟨0,g,0,0,0,fun i=>f (i*2+1)⟩ r.2/\r.2.length=k):=by
    have h1:=HC.out.1;rw[<-he.out]at h1;show _/\_;rw[Hk.out];refine⟨h1.sources,?_⟩;unfold qaq;rw[List.length_map,List.length_map,he.out]
   have x0:wr.cell? ⟨w.heap.size,0,none⟩=some (.int .i64 0):=qaa HC.out.1.res 0 _ rfl;have x1:wr.cell? ⟨w.heap.size,1,none⟩=some (.int .i64 0):=qaa HC.out.1.res 1 _ rfl;have x2:wr.cell? ⟨w.heap.size,2,none⟩=some (.string ⟨#[]⟩):=qaa HC.out.1.res 2 _ rfl;have x3:wr.cell? ⟨w.heap.size,3,none⟩=some (.int .i64 0):=qaa HC.out.1.res 3 _ rfl;have y0:wr.frozen? ⟨w.heap.size,0,none⟩=false:=by simp[World.frozen?,HC.out.1.res]
   have y1:wr.frozen? ⟨w.heap.size,1,none⟩=false:=by simp[World.frozen?,HC.out.1.res]
   have y2:wr.frozen? ⟨w.heap.size,2,none⟩=false:=by simp[World.frozen?,HC.out.1.res]
   have y3:wr.frozen? ⟨w.heap.size,3,none⟩=false:=by simp[World.frozen?,HC.out.1.res]
   go_wp2_with fail
   have hf:=qg3 HC.out.1.res (.int .i64 0) (.int .i64 0) (.string ⟨#[]⟩) (.int .i64 0);have hb:=(((HC.out.1.below.setCell (p:=⟨w.heap.size,0,none⟩) (Nat.le_refl _) (.int .i64 0)).setCell (p:=⟨w.heap.size,1,none⟩) (Nat.le_refl _) (.int .i64 0)).setCell (p:=⟨w.heap.size,2,none⟩) (Nat.le_refl _) (.string ⟨#[]⟩)).setCell (p:=⟨w.heap.size,3,none⟩) (Nat.le_refl _) (.int .i64 0);have hl:∀q,q≠w.heap.size->((((wr.setCell ⟨w.heap.size,0,none⟩ (.int .i64 0)).setCell ⟨w.heap.size,1,none⟩ (.int .i64 0)).setCell ⟨w.heap.size,2,none⟩ (.string ⟨#[]⟩)).setCell ⟨w.heap.size,3,none⟩ (.int .i64 0)).heap[q]?=wr.heap[q]?:=fun q hq=>(Below.heap_setCell _ _ _ _ hq).trans ((Below.heap_setCell _ _ _ _ hq).trans ((Below.heap_setCell _ _ _ _ hq).trans (Below.heap_setCell _ _ _ _ hq)));refine qe0 Tryz.results44 rfl w.heap.size (.slice (some ⟨g,0,none⟩) k k) _ rfl rfl hf _ Tryz.underlying31 rfl (by kernel_rfl) ?_;refine⟨⟨fun q=>absurd (by rw[Hk.out];rfl) q,fun _=>⟨g,(by rw[HS.out.2];rfl),fun i=>f (i*2+1),SrcAt.kept HS.out.1 ?_ ?_⟩⟩,hb⟩
   ·obtain⟨cs,fz,hc⟩:=HS.out.1.blk
    exact hl _ (qae hc HC.out.1.res qdm.symm)
   ·intro i s q hs hv
    obtain⟨cur,hc⟩:=qad (HS.out.1.row i s hs) q hv;exact hl _ (qae hc HC.out.1.res qfd.symm)
theorem q8e(HB:qg9)(S:List Pl.Src)(hS:SrcsOk S):∀k,ThrC S k:=by
 intro k
 induction k with
 |zero=>
   intro w B F vv M s e h hp hk ht;have:=hp.inv.few;have:=hp.inv.ends.few;omega
 |succ k ih=>exact q8d HB S hS k ih
namespace Pl
theorem qo8{n:List UInt8}(h:qa6 n=true):n.length<=8:=by
 unfold qa6 at h;simp only[Bool.and_eq_true,decide_eq_true_eq]at h;exact h.2.1
theorem qjz:∀(Z:List (List UInt8×List UInt8)),(qa4 Z).1.code=0->(qa4 Z).2=(Z.map fun z=>⟨z.1,(qam z.2).2⟩)/\∀(i:Nat) z,Z[i]?=some z->(qam z.2).1.1=0
 |[],_=>⟨rfl,fun i z h=>by simp at h⟩
 |(n,t)::l,h=>by
   unfold qa4 at h |-;by_cases h0:(qam t).1.1=0
   ·rw[if_neg (fun q=>q h0)]at h |-
    by_cases h1:(qa4 l).1.code=0
    ·rw[if_neg (fun q=>q h1)]at h |-
     obtain⟨k1,k2⟩:=qjz l h1;refine⟨by rw[k1];rfl,fun i z hz=>?_⟩;cases i with
     |zero=>simp at hz;subst hz;exact h0
     |succ i=>exact k2 i z (by simpa using hz)
    ·rw[if_pos h1]at h;exact absurd h h1
   ·rw[if_pos h0]at h;cases h
end Pl
theorem q21(t:List UInt8)(P:List (List UInt8×List UInt8))(h6:P.length<=6)(ha:Pl.qg7 (P.map (·.1))=true)(hc:(Pl.qa4 (([],t)::P)).1.code=0):SrcsOk (Pl.qa4 (([],t)::P)).2:=by
 obtain⟨h1,h2⟩:=Pl.qjz _ hc;rw[h1];have Hb:∀(i:Nat) (a:Pl.Src),((([],t)::P).map fun z=>(⟨z.1,(Pl.qam z.2).2⟩:Pl.Src))[i]?=some a->∃z,(([],t)::P)[i]?=some z/\a=⟨z.1,(Pl.qam z.2).2⟩:=fun i a h=>by
  rw[List.getElem?_map]at h;obtain⟨z,e1,e2⟩:=Option.map_eq_some_iff.1 h;exact⟨z,e1,e2.symm⟩
 have Hc:∀(i:Nat) (z:List UInt8×List UInt8),(([],t)::P)[i+1]?=some z->(P.map (·.1))[i]?=some z.1:=fun i z h=>by
  rw[List.getElem?_cons_succ]at h;rw[List.getElem?_map,h];rfl
 have Ha:=(Pl.qe8 _).1 ha;refine⟨by simp;omega,fun i j a b hi hj h3 h4 he=>?_,fun i a h3=>?_,fun i a h3=>?_,fun i a h3=>?_⟩
 ·obtain⟨i,rfl⟩:∃k,i=k+1:=⟨i - 1,by omega⟩
  obtain⟨j,rfl⟩:∃k,j=k+1:=⟨j - 1,by omega⟩;obtain⟨z,e1,rfl⟩:=Hb _ _ h3;obtain⟨y,e2,rfl⟩:=Hb _ _ h4;have he:z.1=y.1:=he;have n1:=Hc i z e1;have n2:=Hc j y e2;rcases Nat.lt_trichotomy i j with q|q|q
  ·exact absurd (he▸n1) ((Ha j y.1 n2).2 i q)
  ·omega
  ·exact absurd (he▸n2) ((Ha i z.1 n1).2 j q)
 ·obtain⟨z,e1,rfl⟩:=Hb _ _ h3
  show z.1.length<=_;cases i with
  |zero=>simp at e1;subst e1;simp
  |succ i=>have:=Pl.qo8 (Ha i z.1 (Hc i z e1)).1;omega
 ·obtain⟨z,e1,rfl⟩:=Hb _ _ h3
  have hz:=h2 i z e1;have hb:=Pl.q7d z.2 hz;have hk:=Pl.qpj z.2 hz;have He:=Pl.q4x z.2;refine⟨Nat.le_trans hk.2 hb.1,fun p hp=>⟨Nat.le_trans (hb.2 p hp).text hb.1,Nat.le_trans (He.2 p hp).pos hb.1,Nat.le_trans (hb.2 p hp).mate hb.1⟩⟩
 ·obtain⟨z,e1,rfl⟩:=Hb _ _ h3
  exact(Pl.qpj z.2 (h2 i z e1)).1
variable{w w' wr:World}{P R:Nat}
theorem qhc{P:Program}{fn:Func}{R:Ending->World->Prop}{a:Act}{p q:Tmp}{tp tq:TypeId}(h:fn.results=#[.cell p tp,.cell q tq])(ha:a.defers=[])(g1 g2:Nat)(c1 c2:Array Value)(hp:a.tmps.getD p undef=.pointer (some ⟨g1,0,none⟩))(hq:a.tmps.getD q undef=.pointer (some ⟨g2,0,none⟩))
  (Ha:w.heap[g1]?=some (.cells c1 tp (0,0))) (hb:w.heap[g2]?=some (.cells c2 tq (0,0))) (d1 d2:TypeDesc) (Hb:P.underlying tp=some d1) (hc:P.underlying tq=some d2) (Hc:aggD d1=true) (he:aggD d2=true) (He:(P.info? tp).map (·.size)=some c1.size) (hf:(P.info? tq).map (·.size)=some c2.size) (hR:R (.returned (.tuple #[.agg c1,.agg c2])) w):bodyPost P fn R .ret a w:=by
 refine bodyPost_ret ?_ ha hR;have Hf:=qbl (P:=P) w g1 tp c1 d1 (qaa Ha) Hb (by cases d1<;>first|rfl|cases Hc) He
 have hg:=qbl (P:=P) w g2 tq c2 d2 (qaa hb) hc (by cases d2<;>first|rfl|cases he) hf
 rw[Array.getD_eq_getD_getElem?]at hp hq;simp only[results,h];simp[hp,hq,asAddr,Hf,hg]
def qbq(L:List (ByteArray×ByteArray)):Bool:=decide (L.length<=6) && Pl.qg7 (qbh L)
theorem qkq(L:List (ByteArray×ByteArray)):(qaq L).map (·.1)=qbh L:=by
 unfold qaq qbh;rw[List.map_map];rfl
theorem qk2(v:Value)(L:List (ByteArray×ByteArray))(w:World)(hA:qpx w v L):Calls Tryz.prog 43 #[v] w fun e w'=>e=.returned (.bool (qbq L))/\Below w.heap.size w w':=by
 obtain⟨ao,cap,rfl,h1,h2,h3⟩:=hA;unfold qbq;by_cases h6:L.length<=6
 ·rw[decide_eq_true h6,Bool.true_and]
  by_cases hn:L=[]
  ·subst hn
   refine(qv1 ao cap w).mono ?_;rintro e w' ⟨rfl,rfl⟩;exact⟨rfl,Below.refl _ _⟩
  ·obtain⟨b,rfl,hp⟩:=h3 hn
   refine(qv0 b cap L w hp h6).mono ?_;rintro e w' ⟨rfl,m,rfl⟩;exact⟨rfl,qay (Below.refl _ _) m⟩
 ·rw[decide_eq_false h6,Bool.false_and]
  refine(qv2 ao L.length cap w (by omega)).mono ?_;rintro e w' ⟨rfl,rfl⟩;exact⟨rfl,Below.refl _ _⟩
theorem qpx.kept{v:Value}{L:List (ByteArray×ByteArray)}(h:qpx w v L)(hb:Below w.heap.size w w'):qpx w' v L:=by
 obtain⟨ao,cap,h0,h1,h2,h3⟩:=h;refine⟨ao,cap,h0,h1,h2,fun hn=>?_⟩;obtain⟨b,e,hp⟩:=h3 hn;exact⟨b,e,fun k x hx=>(hb.cell (p:=⟨b,k*2,none⟩) (World.block_lt_of_cell? _ _ (hp.name k x hx))).trans (hp.name k x hx),fun k x hx=>(hb.cell (p:=⟨b,k*2+1,none⟩) (World.block_lt_of_cell? _ _ (hp.text k x hx))).trans (hp.text k x hx)⟩
structure Mki(w wr:World)(P R:Nat):Prop where
 pl:wr.heap[P]?=some (.cells #[.slice none 0 0] 77 (0,0))
 ft:wr.heap[R]?=some (.cells #[.int .i64 0,.int .i64 0,.string ⟨#[]⟩,.int .i64 0] 31 (0,0))
 below:Below w.heap.size w wr
 le:w.heap.size<=P/\w.heap.size<=R
 ne:P≠R
theorem Mki.next(h:Mki w wr P R)(hb:Below wr.heap.size wr w'):Mki w w' P R:=
 ⟨(hb.block _ (Array.getElem?_eq_some_iff.1 h.pl).1).trans h.pl,(hb.block _ (Array.getElem?_eq_some_iff.1 h.ft).1).trans h.ft,h.below.trans (hb.mono h.below.size),h.le,h.ne⟩
theorem Mki.keeps{B:Nat}(h:Mki w wr P R)(hk:q7o wr w')(hb:Below B wr w')(hB:w.heap.size<=B):Mki w w' P R:=
 ⟨(hk _ _ _ _ h.pl (by decide) (by decide)).trans h.pl,(hk _ _ _ _ h.ft (by decide) (by decide)).trans h.ft,h.below.trans (hb.mono hB),h.le,h.ne⟩
theorem Mki.start(w:World):Mki w ((w.alloc (.cells #[.slice none 0 0] 77)).alloc (.cells #[.int .i64 0,.int .i64 0,.string ⟨#[]⟩,.int .i64 0] 31)) w.heap.size (w.heap.size+1):=
 ⟨(heap_alloc_old _ _ (by simp)).trans (heap_alloc_new _ _),qal _ _ _ (by simp),(ba _).alloc (by simp) _,⟨Nat.le_refl _,by omega⟩,by omega⟩
theorem Mki.set(h:Mki w wr P R)(u v0 v1 v2 v3:Value) :
  (((((wr.setCell ⟨P,0,none⟩ u).setCell ⟨R,0,none⟩ v0).setCell ⟨R,1,none⟩ v1).setCell ⟨R,2,none⟩ v2).setCell ⟨R,3,none⟩ v3).heap[P]?=some (.cells #[u] 77 (0,0)) /\
  (((((wr.setCell ⟨P,0,none⟩ u).setCell ⟨R,0,none⟩ v0).setCell ⟨R,1,none⟩ v1).setCell ⟨R,2,none⟩ v2).setCell ⟨R,3,none⟩ v3).heap[R]?=some (.cells #[v0,v1,v2,v3] 31 (0,0)) /\
  Below w.heap.size w (((((wr.setCell ⟨P,0,none⟩ u).setCell ⟨R,0,none⟩ v0).setCell ⟨R,1,none⟩ v1).setCell ⟨R,2,none⟩ v2).setCell ⟨R,3,none⟩ v3):=by
 have h1:(wr.setCell ⟨P,0,none⟩ u).heap[P]?=some (.cells #[u] 77 (0,0)):=heap_setCell_same _ _ _ _ _ _ h.pl;have h2:(wr.setCell ⟨P,0,none⟩ u).heap[R]?=_:=(Below.heap_setCell _ _ _ _ h.ne.symm).trans h.ft;refine⟨?_,qg3 h2 _ _ _ _,?_⟩
 ·exact(Below.heap_setCell _ _ _ _ h.ne).trans ((Below.heap_setCell _ _ _ _ h.ne).trans ((Below.heap_setCell _ _ _ _ h.ne).trans ((Below.heap_setCell _ _ _ _ h.ne).trans h1)))
 ·exact((((h.below.setCell (p:=⟨P,0,none⟩) h.le.1 u).setCell (p:=⟨R,0,none⟩) h.le.2 v0).setCell (p:=⟨R,1,none⟩) h.le.2 v1).setCell (p:=⟨R,2,none⟩) h.le.2 v2).setCell (p:=⟨R,3,none⟩) h.le.2 v3
theorem Mki.sv(h:Mki w wr P R){B:Nat}{F:Fix}{S:List Pl.Src}{vv:Value}{M:List Nat}{s:Pl.Sr}(hs:SvAt wr B F S vv M s)(u v0 v1 v2 v3:Value) :
  SvAt (((((wr.setCell ⟨P,0,none⟩ u).setCell ⟨R,0,none⟩ v0).setCell ⟨R,1,none⟩ v1).setCell ⟨R,2,none⟩ v2).setCell ⟨R,3,none⟩ v3) B F S vv M s:=
 (hs.other h.pl (by decide) (by decide) (by decide) (by decide) (by decide) 0 u).fault4 ((Below.heap_setCell _ _ _ _ h.ne.symm).trans h.ft) v0 v1 v2 v3
theorem Mki.beside(h:Mki w wr P R){E:Nat}(hE:w.heap.size<=E)(h1:P≠E)(h2:R≠E)(v0 v1 v2 v3:Value):Mki w ((((wr.setCell ⟨E,0,none⟩ v0).setCell ⟨E,1,none⟩ v1).setCell ⟨E,2,none⟩ v2).setCell ⟨E,3,none⟩ v3) P R:=
 have e:∀q,q≠E->((((wr.setCell ⟨E,0,none⟩ v0).setCell ⟨E,1,none⟩ v1).setCell ⟨E,2,none⟩ v2).setCell ⟨E,3,none⟩ v3).heap[q]?=wr.heap[q]?:=fun _ hk=>(Below.heap_setCell _ _ _ _ hk).trans ((Below.heap_setCell _ _ _ _ hk).trans ((Below.heap_setCell _ _ _ _ hk).trans (Below.heap_setCell _ _ _ _ hk)))
 ⟨(e _ h1).trans h.pl,(e _ h2).trans h.ft,(((h.below.setCell (p:=⟨E,0,none⟩) hE v0).setCell (p:=⟨E,1,none⟩) hE v1).setCell (p:=⟨E,2,none⟩) hE v2).setCell (p:=⟨E,3,none⟩) hE v3,h.le,h.ne⟩
theorem Mki.cells(h:Mki w wr P R):wr.cell? ⟨P,0,none⟩=some (.slice none 0 0)/\wr.frozen? ⟨P,0,none⟩=false/\wr.cell? ⟨R,0,none⟩=some (.int .i64 0)/\wr.cell? ⟨R,1,none⟩=some (.int .i64 0)/\wr.cell? ⟨R,2,none⟩=some (.string ⟨#[]⟩)/\wr.cell? ⟨R,3,none⟩=some (.int .i64 0)/\wr.frozen? ⟨R,0,none⟩=false/\wr.frozen? ⟨R,1,none⟩=false/\wr.frozen? ⟨R,2,none⟩=false/\wr.frozen? ⟨R,3,none⟩=false:=
 ⟨qaa h.pl 0 _ rfl,by simp[World.frozen?,h.pl],qaa h.ft 0 _ rfl,qaa h.ft 1 _ rfl,qaa h.ft 2 _ rfl,qaa h.ft 3 _ rfl,by simp[World.frozen?,h.ft],by simp[World.frozen?,h.ft],by simp[World.frozen?,h.ft],by simp[World.frozen?,h.ft]⟩
theorem qul(T:ByteArray)(v:Value)(L:List (ByteArray×ByteArray))(w:World)(hA:qpx w v L)(hf:qbq L=false) :
  Calls Tryz.prog 29 #[.string T,v] w fun ed w'=>ed=.returned (.tuple #[.agg #[.slice none 0 0],.agg #[.int .i64 1,.int .i64 0,.string ⟨#[]⟩,.int .i64 0]])/\Below w.heap.size w w':=by
 have h1:=fun w1 (hb:Below w.heap.size w w1)=>qk2 v L w1 (hA.kept hb);rw[hf]at h1;have H1:=hd h1;clear h1 hf hA;go_enter Tryz.func29,Tryz.ntmps29
 go_wp2_with fail
 refine(H1.out _ (Mki.start w).below).mono ?_;rintro ed w1 ⟨rfl,hb⟩;have HK:=(show Hid _ from(Mki.start w).next hb);obtain⟨p0,q0,x0,x1,x2,x3,y0,y1,y2,y3⟩:=HK.out.cells;clear hb;go_wp2_with fail
 have hs:=HK.out.set (.slice none 0 0) (.int .i64 1) (.int .i64 0) (.string ⟨#[]⟩) (.int .i64 0);refine qhc Tryz.results29 rfl w.heap.size (w.heap.size+1) _ _ rfl rfl hs.1 hs.2.1 _ _ Tryz.underlying77 Tryz.underlying31 rfl rfl (by kernel_rfl) (by kernel_rfl) ?_;exact⟨rfl,hs.2.2⟩
end Go.Proofs.YtfkhljmiehdgmaaGreatDoor
namespace Go.Proofs.YtfkhljmiehdgmaaGreatDoor
open Go.RowKit
variable{w w' w1:World}{B g:Nat}{S:List Pl.Src}{N:List ByteArray}{pv:Nat->Value}{RL:Nat->List Rm}{vp ve v:Value}{L:List (ByteArray×ByteArray)}
def qfe(pv:Nat->Value):Nat->List ByteArray->List Value
 |_,[]=>[]
 |i,n::l=>.string n::pv i::qfe pv (i+1) l
theorem qgv(pv:Nat->Value):∀(l:List ByteArray) (i:Nat),(qfe pv i l).length=l.length*2
 |[],_=>rfl
 |n::l,i=>by show(qfe pv (i+1) l).length+2=_;rw[qgv pv l (i+1),List.length_cons];omega
theorem qmt(pv:Nat->Value):∀(l:List ByteArray) (i:Nat) (n:ByteArray),qfe pv i (l++[n])=qfe pv i l++[.string n,pv (i+l.length)]
 |[],i,n=>rfl
 |m::l,i,n=>by
   show Value.string m::pv i::qfe pv (i+1) (l++[n])=_;rw[qmt pv l (i+1) n,show i+1+l.length=i+(m::l).length by simp;omega];rfl
theorem qht(pv:Nat->Value):∀(l:List ByteArray) (i k:Nat) (n:ByteArray),l[k]?=some n->(qfe pv i l)[k*2]?=some (.string n)/\(qfe pv i l)[k*2+1]?=some (pv (i+k))
 |[],i,k,n,h=>by simp at h
 |m::l,i,0,n,h=>by
   simp only[List.getElem?_cons_zero,Option.some.injEq]at h;subst h;exact⟨rfl,rfl⟩
 |m::l,i,k+1,n,h=>by
   have:=qht pv l (i+1) k n (by simpa using h);rw[show i+1+k=i+(k+1) by omega]at this;rw[show(k+1)*2=k*2+2 by omega];exact this
theorem qmu{pv pv':Nat->Value}:∀(l:List ByteArray) (i:Nat),(∀j,j<l.length->pv (i+j)=pv' (i+j))->qfe pv i l=qfe pv' i l
 |[],_,_=>rfl
 |m::l,i,h=>by
   have h0:pv i=pv' i:=h 0 (by simp);have h1:=qmu (pv:=pv) (pv':=pv') l (i+1) (fun j hj=>by
    have:=h (j+1) (by rw[List.length_cons];omega)
    rwa [show i+(j+1)=i+1+j by omega]at this)
   show Value.string m::pv i::qfe pv (i+1) l=Value.string m::pv' i::qfe pv' (i+1) l;rw[h0,h1]
structure TpAt(w:World)(B g:Nat)(S:List Pl.Src)(N:List ByteArray)(pv:Nat->Value)(RL:Nat->List Rm)(vp ve:Value):Prop where
 blk:w.heap[g]?=some (.cells #[pv 0,vp,ve] 101 (0,0))
 le:B<=g
 parts:w.ownsRow B 134 2 vp N.length (qfe pv 1 N)
 row:∀i s,S[i]?=some s->w.ownsRow B 136 6 (pv i) (RL i).length (qd6 (RL i))/\RmsOf (RL i) s.parts
theorem TpAt.same(h:TpAt w B g S N pv RL vp ve)(hg:w'.heap[g]?=w.heap[g]?)(hp:∀k,vp.ownBlock=some k->w'.heap[k]?=w.heap[k]?)(hr:∀i s k,S[i]?=some s->(pv i).ownBlock=some k->w'.heap[k]?=w.heap[k]?):TpAt w' B g S N pv RL vp ve:=
 ⟨hg.trans h.blk,h.le,qac h.parts hp,fun i s hs=>⟨qac (h.row i s hs).1 fun k hk=>hr i s k hs hk,(h.row i s hs).2⟩⟩
theorem TpAt.kept(h:TpAt w B g S N pv RL vp ve)(hb:Below w.heap.size w w'):TpAt w' B g S N pv RL vp ve:=
 h.same (hb.block _ (lta h.blk)) (fun k hk=>hb.block k (h.parts.lt k hk).2) fun i s k hs hk=>hb.block k ((h.row i s hs).1.lt k hk).2
theorem TpAt.drew(h:TpAt w B g S N pv RL vp ve):TpAt w.drew B g S N pv RL vp ve:=h.same rfl (fun _ _=>rfl) fun _ _ _ _ _=>rfl
theorem qkd:(101:TypeId)≠134:=by decide
theorem qtp:(101:TypeId)≠136:=by decide
theorem qrz:(134:TypeId)≠136:=by decide
theorem TpAt.apart(h:TpAt w B g S N pv RL vp ve)(hb:Below w.heap.size w w1)(Ha:w1.grownBy w' vp.ownBlock){k:Nat}{cs:Array Value}{t:TypeId}{fz:Nat×Nat}(hk:w.heap[k]?=some (.cells cs t fz))(ht:t≠134):w'.heap[k]?=w.heap[k]?:=by
 have ha:=(Array.getElem?_eq_some_iff.1 hk).1;refine(Ha.block k (Nat.lt_of_lt_of_le ha hb.size) (fun e=>?_)).trans (hb.block k ha);obtain⟨cur,hc⟩:=qad h.parts k e.symm;exact qae hk hc ht rfl
theorem TpAt.ahead(h:TpAt w B g S N pv RL vp ve)(hb:Below w.heap.size w w1)(ha:w1.grownBy w' vp.ownBlock):w'.cell? ⟨g,1,none⟩=some vp/\w'.frozen? ⟨g,1,none⟩=false:=by
 have hg:=(h.apart hb ha h.blk qkd).trans h.blk;exact⟨qaa hg 1 _ rfl,frozen_of_row _ _ 1 _ _ hg⟩
theorem TpAt.more{vp':Value}(h:TpAt w B g S N pv RL vp ve)(Hb:S.length=N.length+1)(hb:Below w.heap.size w w1){n:ByteArray}{u:Value}{R:List Rm}{s:Pl.Src}(hu:w.ownsRow B 136 6 u R.length (qd6 R))(hR:RmsOf R s.parts)(Ha:w'.ownsRow B 134 2 vp' (N.length+1) (qfe pv 1 N++[.string n,u]))(Hc:w1.grownBy w' vp.ownBlock)(He:vp'.ownBlock≠some g) :
  TpAt (w'.setCell ⟨g,1,none⟩ vp') B g (S++[s]) (N++[n]) (fun i=>if i=N.length+1 then u else pv i) (fun i=>if i=N.length+1 then R else RL i) vp' ve:=by
 have hg:=(h.apart hb Hc h.blk qkd).trans h.blk;have ha:∀k,k≠g->(w'.setCell ⟨g,1,none⟩ vp').heap[k]?=w'.heap[k]?:=fun k hk=>Below.heap_setCell _ _ _ _ hk;have he:∀(v:Value) (m:Nat) (xs:List Value),w.ownsRow B 136 6 v m xs->(w'.setCell ⟨g,1,none⟩ vp').ownsRow B 136 6 v m xs:=fun v m xs hv=>qac hv fun k hk=>by
  obtain⟨cur,hc⟩:=qad hv k hk;exact(ha k (fun e=>qae h.blk hc qtp e.symm)).trans (h.apart hb Hc hc qrz.symm)
 refine⟨?_,h.le,?_,fun i s' hs=>?_⟩
 ·rw[show (if 0=N.length+1 then u else pv 0)=pv 0 from if_neg (by omega)]
  exact heap_setCell_same w' g 1 _ _ _ hg
 ·rw[List.length_append,qmt,qmu (pv':=pv) N 1 (fun j hj=>if_neg (by omega)),if_pos (by omega)]
  exact qac Ha fun k hk=>ha k (fun e=>He (by rw[<-e];exact hk))
 ·by_cases q:i<S.length
  ·rw[List.getElem?_append_left q]at hs
   rw[if_neg (by omega),if_neg (by omega)];exact⟨he _ _ _ (h.row i s' hs).1,(h.row i s' hs).2⟩
  ·have h1:=(List.getElem?_eq_some_iff.1 hs).1
   rw[List.length_append]at h1;simp only[List.length_cons,List.length_nil]at h1;have e:i=S.length:=by omega
   subst e;rw[List.getElem?_append_right (Nat.le_refl _),Nat.sub_self]at hs;simp at hs;subst hs;rw[if_pos Hb,if_pos Hb];exact⟨he _ _ _ hu,hR⟩
structure PoAt(w:World)(b o:Nat)(L:List (ByteArray×ByteArray)):Prop where
 name:∀(k:Nat) (x:ByteArray×ByteArray),L[k]?=some x->w.cell? ⟨b,o+k*2,none⟩=some (.string x.1)
 text:∀(k:Nat) (x:ByteArray×ByteArray),L[k]?=some x->w.cell? ⟨b,o+k*2+1,none⟩=some (.string x.2)
def qj2(w:World)(v:Value)(L:List (ByteArray×ByteArray)):Prop:=∃ao cap,v=.slice ao L.length cap/\L.length<=cap/\cap<=maxLen/\(L≠[]->∃b o,ao=some ⟨b,o,none⟩/\PoAt w b o L)
theorem qj2.kept(h:qj2 w v L)(hb:Below w.heap.size w w'):qj2 w' v L:=by
 obtain⟨ao,cap,h1,h2,h3,h4⟩:=h;refine⟨ao,cap,h1,h2,h3,fun hn=>?_⟩;obtain⟨b,o,h5,h6⟩:=h4 hn;exact⟨b,o,h5,fun k x hx=>(hb.cell (p:=⟨b,o+k*2,none⟩) (World.block_lt_of_cell? _ _ (h6.name k x hx))).trans (h6.name k x hx),fun k x hx=>(hb.cell (p:=⟨b,o+k*2+1,none⟩) (World.block_lt_of_cell? _ _ (h6.text k x hx))).trans (h6.text k x hx)⟩
def tkF(T:ByteArray)(L:List (ByteArray×ByteArray)):Pl.Ft×List Pl.Src:=if qbq L=false then(⟨1,0,[],0⟩,[])else Pl.qa4 (([],T.data.toList)::qaq L)
def qpw(w:World)(T:ByteArray)(L:List (ByteArray×ByteArray))(e:Ending)(w':World):Prop:=
 (∃p,e=.returned (.tuple #[p,qku (tkF T L).1])/\((tkF T L).1.code=0->∃g pv RL vp,p=.pointer (some ⟨g,0,none⟩)/\TpAt w' w.heap.size g (tkF T L).2 (L.map (·.1)) pv RL vp (.slice none 0 0)))/\Below w.heap.size w w'
def qm7:Array Value:=#[.int .i64 0,.int .i64 0,.string ⟨#[]⟩,.int .i64 0]
def set4(w:World)(g:Nat)(v0 v1 v2 v3:Value):World:=(((w.setCell ⟨g,0,none⟩ v0).setCell ⟨g,1,none⟩ v1).setCell ⟨g,2,none⟩ v2).setCell ⟨g,3,none⟩ v3
theorem qfi{t:TypeId}(h:w.heap[g]?=some (.cells qm7 t (0,0)))(v0 v1 v2 v3:Value):(set4 w g v0 v1 v2 v3).heap[g]?=some (.cells #[v0,v1,v2,v3] t (0,0)):=by
 have h1:=heap_setCell_same w g 0 _ _ v0 h;have h2:=heap_setCell_same _ g 1 _ _ v1 h1;have h3:=heap_setCell_same _ g 2 _ _ v2 h2;exact heap_setCell_same _ g 3 _ _ v3 h3
theorem qem{a:World}(h:Below B a w)(hg:B<=g)(v0 v1 v2 v3:Value):Below B a (set4 w g v0 v1 v2 v3):=
 (((h.setCell (p:=⟨g,0,none⟩) hg v0).setCell (p:=⟨g,1,none⟩) hg v1).setCell (p:=⟨g,2,none⟩) hg v2).setCell (p:=⟨g,3,none⟩) hg v3
theorem qzk:(Tryz.prog.info? 31).map (·.size)=some 4:=by kernel_rfl
theorem qz7{X:World}{T:ByteArray}{a:Act}{f:Pl.Ft}{p:Value}(hX:X.heap[w.heap.size]?=some (.cells #[.int .i64 f.code,.int .i64 f.kind,bs f.place,.int .i64 f.pos] 31 (0,0)))(hb:Below w.heap.size w X)(hv:(tkF T L).1=f)
  (hp:a.tmps.getD 5 undef=.pointer (some ⟨w.heap.size,0,none⟩)) (h4:a.tmps.getD 4 undef=p) (ha:a.defers=[]) (hk:f.code=0->∃g pv RL vp,p=.pointer (some ⟨g,0,none⟩)/\TpAt X w.heap.size g (tkF T L).2 (L.map (·.1)) pv RL vp (.slice none 0 0)) :
  bodyPost Tryz.prog Tryz.f32 (qpw w T L) .ret a X:=by
 refine bodyPost_ret (qd4 (cs:=#[.int .i64 f.code,.int .i64 f.kind,bs f.place,.int .i64 f.pos]) Tryz.results32 a.tmps _ w.heap.size _ hp (qaa hX) Tryz.underlying31 rfl qzk) ha ?_;rw[h4];exact⟨⟨p,by rw[hv];rfl,fun h=>hk (by rw[<-hv];exact h)⟩,hb⟩
def tkZ(T:ByteArray)(L:List (ByteArray×ByteArray)):List (List UInt8×List UInt8):=([],T.data.toList)::qaq L
def tkS(Z:List (List UInt8×List UInt8)):List Pl.Src:=Z.map fun z=>⟨z.1,(Pl.qam z.2).2⟩
structure TkAt(w wr:World)(T:ByteArray)(L:List (ByteArray×ByteArray))(g k:Nat)(pv:Nat->Value)(RL:Nat->List Rm)(vp:Value):Prop where
 res:wr.heap[w.heap.size]?=some (.cells qm7 31 (0,0))
 tp:TpAt wr w.heap.size g (tkS ((tkZ T L).take (k+1))) ((L.map (·.1)).take k) pv RL vp (.slice none 0 0)
 below:Below w.heap.size w wr
 fine:∀i z,i<k+1->(tkZ T L)[i]?=some z->(Pl.qam z.2).1.1=0
theorem qm5{B' n k:Nat}{e:TypeId}{xs:List Value}(h:w.ownsRow B e k v n xs)(hB:B'<=B):w.ownsRow B' e k v n xs:=by
 refine⟨h.1,h.2.imp id ?_⟩;rintro⟨g,cap,cur,h1,h2,h3⟩;exact⟨g,cap,cur,h1,Nat.le_trans hB h2,h3⟩
theorem qx2:(Value.agg #[.string ⟨#[]⟩,.slice none 0 0]).cells.size=2:=rfl
theorem q1j:(Tryz.prog.info? 134).map (fun i=>(i.zero,i.size,i.bytes))=some (some (.agg #[.string ⟨#[]⟩,.slice none 0 0]),2,40):=by kernel_rfl
theorem qt5{P:Program}(w:World)(dT sT ty elem:TypeId)(g dLen dCap:Nat)(ao:Option Addr)(sLen sCap:Nat)(cur:Array Value)(t:TypeId)(cs:List Value)(hu:P.underlying dT=some (.slice elem))(hs:(P.info? elem).map (·.size)=some 2)
  (hg:w.heap[g]?=some (.cells cur t (0,0))) (hn:cs.length=sLen*2) (Hb:sLen<=dLen) (Ha:sLen≠0->∃a,ao=some a/\∀j v,cs[j]?=some v->w.cell? (a.add j)=some v) (hb:cs.length<=cur.size) (h1:∀v∈cs,v.oneCell'=true) :
  (Builtin.copy_ #[dT,sT] ty #[.slice (some ⟨g,0,none⟩) dLen dCap,.slice ao sLen sCap]).run P w=.ok (goInt sLen) (w.setRow g (cs++cur.toList.drop cs.length).toArray):=by
 have ha:=run_storeCells_at P g 0 t cs 0 cur w hg (by simpa using hb) h1;simp only[Nat.zero_add,Nat.add_zero,List.take_zero,List.nil_append]at ha;have hm:Nat.min sLen dLen=sLen:=Nat.min_eq_left Hb;cases hq:P.info? elem with
 |none=>simp[hq]at hs
 |some i=>
   have hi:i.size=2:=by simpa [hq]using hs
   by_cases h0:sLen=0
   ·subst h0
    obtain rfl:cs=[]:=List.eq_nil_of_length_eq_zero (by omega);have hl:=run_loadCells_list (P:=P) w ⟨0,0,none⟩ [] (fun j v hj=>by simp at hj);cases ao with
    |none=>simp[Builtin.copy_,run_underlying hu,Builtin.lenOf,Builtin.firstCells,sizeOf,typeInfo,hq,hm,ha]
    |some a=>
      have hl:=run_loadCells_list (P:=P) w a [] (fun j v hj=>by simp at hj);simp only[List.length_nil]at hl;simp[Builtin.copy_,run_underlying hu,Builtin.lenOf,Builtin.firstCells,sizeOf,typeInfo,hq,hm,hl,ha]
   ·obtain⟨a,rfl,hc⟩:=Ha h0
    have hl:=run_loadCells_list (P:=P) w a cs hc;simp[Builtin.copy_,run_underlying hu,Builtin.lenOf,Builtin.firstCells,sizeOf,typeInfo,hq,hi,hm,<-hn,hl,ha]
theorem q8n{α:Type}(l:List α)(d0 d1 u0 u1:α):(((l++[d0,d1]).toArray.setIfInBounds l.length u0).setIfInBounds (l.length+1) u1)=(l++[u0,u1]).toArray:=by simp
theorem q53{w:World}{b o:Nat}{L:List (ByteArray×ByteArray)}(h:PoAt w b o L):∀j v,(qdn L)[j]?=some v->w.cell? ((⟨b,o,none⟩:Addr).add j)=some v:=by
 intro j v hj;have e:(⟨b,o,none⟩:Addr).add j=⟨b,o+j,none⟩:=by unfold Addr.add;split<;>simp_all
 rw[e];have hl:=(List.getElem?_eq_some_iff.1 hj).1;rw[qbd]at hl;obtain⟨x,hx⟩:∃x,L[j / 2]?=some x:=⟨L[j / 2]'(by omega),List.getElem?_eq_getElem (by omega)⟩;obtain⟨h1,h2⟩:=qe5 L (j / 2) x hx;rcases(show j=j / 2*2\/j=j / 2*2+1 by omega)with e|e
 ·rw[e]at hj |-
  rw[h1]at hj;obtain rfl:=Option.some.inj hj;exact h.name _ x hx
 ·rw[e]at hj |-
  rw[h2]at hj;obtain rfl:=Option.some.inj hj;exact h.text _ x hx
def qej(L:List (ByteArray×ByteArray)):List Value:=qdn L++[.string ⟨#[98,101,121,111,110,100]⟩,.string ⟨#[]⟩]
theorem q3n(v:Value)(L:List (ByteArray×ByteArray))(w:World)(hA:qj2 w v L)(hn:L.length<=2000000) :
  Calls Tryz.prog 27 #[v] w fun e w'=>e=.returned (.slice (some ⟨w.heap.size,0,none⟩) (L.length+1) (L.length+1))/\w'.heap[w.heap.size]?=some (.cells (qej L).toArray 38 (0,0))/\Below w.heap.size w w':=by
 obtain⟨ao,cap,rfl,hc,hm,hp⟩:=hA;obtain⟨i0,hi,Hf,He,Hg⟩:=info_parts qm6;obtain⟨W1,Hj,Hc,Hb⟩:=run_makeSlice_full (P:=Tryz.prog) w w.heap.size 22 38 i0 (.agg #[.string ⟨#[]⟩,.string ⟨#[]⟩]) 2 Tryz.underlying22 hi Hf He .i64 .i64 (L.length+1) (by omega) (by rw[Hg];omega) (by unfold maxLen;omega) (Nat.le_refl _);obtain⟨cur,Ha,Hi⟩:∃cur,W1.heap[w.heap.size]?=some (.cells cur 38 (0,0))/\cur.size=(L.length+1)*2:=by
  rcases Hc.2 with⟨q,_⟩|⟨g,cap,cur,hv,_,hg,_,_,hs,_⟩
  ·cases q
  ·injection hv with e1 e2 e3
   injection e1 with e1;injection e1 with e1;subst e1 e3;exact⟨cur,hg,hs⟩
 have ha:Below w.heap.size w W1:=⟨Hb.os,Hb.tape,Hb.output,Hb.size,fun k hk=>Hb.block k hk (by simp)⟩;have hj:=fun ty=>qt5 (P:=Tryz.prog) W1 22 22 ty 38 w.heap.size (L.length+1) (L.length+1) ao L.length cap cur 38 (qdn L) Tryz.underlying22 (by rw[hi];simp[He]) Ha (qbd L) (by omega) (fun h0=>by
  obtain⟨b,o,rfl,he⟩:=hp (fun e=>h0 (by rw[e];rfl));exact⟨_,rfl,q53 (w:=W1) ⟨fun k x hx=>(ha.cell (p:=⟨b,o+k*2,none⟩) (World.block_lt_of_cell? _ _ (he.name k x hx))).trans (he.name k x hx),fun k x hx=>(ha.cell (p:=⟨b,o+k*2+1,none⟩) (World.block_lt_of_cell? _ _ (he.text k x hx))).trans (he.text k x hx)⟩⟩) (by rw[qbd,Hi];omega) (fun v hv=>by
  unfold qdn at hv;obtain⟨x,_,hx⟩:=List.mem_flatMap.1 hv;simp at hx;rcases hx with rfl | rfl<;>rfl)
 obtain⟨d0,d1,hd⟩:∃d0 d1,cur.toList.drop (qdn L).length=[d0,d1]:=by
  have:(cur.toList.drop (qdn L).length).length=2:=by rw[List.length_drop,qbd];simp[Hi];omega
  match hq:cur.toList.drop (qdn L).length,this with
  |[d0,d1],_=>exact⟨d0,d1,rfl⟩
 rw[hd]at hj;have hb:(W1.setRow w.heap.size (qdn L++[d0,d1]).toArray).heap[w.heap.size]?=some (.cells (qdn L++[d0,d1]).toArray 38 (0,0)):=setRow_heap W1 _ _ _ _ _ Ha;have hf:Below w.heap.size w (W1.setRow w.heap.size (qdn L++[d0,d1]).toArray):=⟨ha.os,ha.tape,ha.output,by simpa using ha.size,fun k hk=>by
  refine Eq.trans ?_ (ha.block k hk);simp only[World.setRow,Array.getElem?_modify];rw[if_neg (by omega)]⟩
 clear Ha Hc Hb ha hd hp;generalize W1.setRow w.heap.size (qdn L++[d0,d1]).toArray=W2 at hj hb hf;have c0:W2.cell? ⟨w.heap.size,L.length*2,none⟩=some d0:=qaa hb (L.length*2) _ (by simp[<-qbd]);have c1:W2.cell? ⟨w.heap.size,L.length*2+1,none⟩=some d1:=qaa hb (L.length*2+1) _ (by simp[<-qbd]);have f0:=frozen_of_row _ _ (L.length*2) _ _ hb;have f1:=frozen_of_row _ _ (L.length*2+1) _ _ hb;have HH:Hid (((W2.setCell ⟨w.heap.size,L.length*2,none⟩ (.string ⟨#[98,101,121,111,110,100]⟩)).setCell ⟨w.heap.size,L.length*2+1,none⟩ (.string ⟨#[]⟩)).heap[w.heap.size]?=some (.cells (qej L).toArray 38 (0,0))):=by
  have h1:=heap_setCell_same W2 w.heap.size (L.length*2) _ _ (.string ⟨#[98,101,121,111,110,100]⟩) hb;have h2:=heap_setCell_same _ w.heap.size (L.length*2+1) _ _ (.string ⟨#[]⟩) h1;rw[<-qbd,q8n]at h2;rw[<-qbd];exact h2
 have HB:=(show Hid _ from(hf.setCell (p:=⟨w.heap.size,L.length*2,none⟩) (Nat.le_refl _) (.string ⟨#[98,101,121,111,110,100]⟩)).setCell (p:=⟨w.heap.size,L.length*2+1,none⟩) (Nat.le_refl _) (.string ⟨#[]⟩));rw[show((L.length+1:Nat):Int)=(L.length:Int)+1 by omega]at Hj;have hl:IntKind.i64.wrap ((L.length:Int)+1)=(L.length:Int)+1:=by rw[IntKind.wrap_i64];omega
 have Hl:(L.length:Int)<(L.length:Int)+1:=by omega
 have Hk:L.length<L.length+1:=by omega
 clear hi Hf He Hg hb hf;go_enter Tryz.func27,Tryz.ntmps27
 go_wp2_with fail
 go_ret
 exact⟨rfl,HH.out,HB.out⟩
theorem qyf(w:World):PredGrows Tryz.prog 228 #[] qcj w:=fun W x hx _=>qxn x W hx
theorem qxt(s:ByteArray)(w:World)(hs:s.size<=100000) :
  Calls Tryz.prog 227 #[.string s,.func (.func 228) #[] #[]] w fun e w'=>∃A,e=.returned (.slice (some ⟨A,0,none⟩) (Lib.goFieldsP qcj s).length (Lib.goFieldsP qcj s).length)/\w.heap.size<=A /\
   (∀j x,(Lib.goFieldsP qcj s)[j]?=some x->w'.cell? ⟨A,j,none⟩=some (.string x))/\Below w.heap.size w w':=by
 refine(Tryz.strings_FieldsFunc_grows 228 #[] (fun _ _=>by kernel_rfl) qcj s w (by omega) (qyf w)).mono ?_;rintro e w' ⟨A,he,hA,ho,hb⟩;refine⟨A,he,hA,fun j x hj=>?_,hb⟩;have ha:j<(Lib.goFieldsP qcj s).length:=(List.getElem?_eq_some_iff.1 hj).1;rw[ho.cellAt j (by omega),List.getElem?_map,hj];rfl
def rdTg:List (List UInt8)->Pl.Tg
 |[a,b]=>if Pl.qd7 a=true/\Pl.qd7 b=true then⟨8,0,[],a,b⟩else⟨8,4,[],[],[]⟩
 |_=>⟨8,4,[],[],[]⟩
theorem q50(l:List (List UInt8))(h:l.length≠2):rdTg l=⟨8,4,[],[],[]⟩:=by
 match l,h with
 |[],_=>rfl
 |[_],_=>rfl
 |[_,_],h=>exact absurd rfl h
 |_::_::_::_,_=>rfl
theorem q3i(c:List UInt8):Pl.qdc c=if Lib.hasSuffix (c.drop 1) [61]=false then⟨8,4,[],[],[]⟩else rdTg (Pl.qfq (Lib.trimSuffix (c.drop 1) [61])):=rfl
theorem qp1(s:ByteArray)(w:World)(I:ByteArray)(b:Bool)(F:List ByteArray)(r:Pl.Tg)(hs:s.size≠0)
  (hC:∀w,Calls Tryz.prog 226 #[.string (s.extract 1 s.size),.string ⟨#[61]⟩] w fun e w'=>e=.returned (.tuple #[.string I,.bool b])/\w=w')
  (hF:∀w,Calls Tryz.prog 227 #[.string I,.func (.func 228) #[] #[]] w fun e w'=>∃A,e=.returned (.slice (some ⟨A,0,none⟩) F.length F.length)/\w.heap.size<=A /\
   (∀j x,F[j]?=some x->w'.cell? ⟨A,j,none⟩=some (.string x))/\Below w.heap.size w w')
  (hr:r=if b=false then⟨8,4,[],[],[]⟩else rdTg (F.map (·.data.toList))) :
  Calls Tryz.prog 194 #[.string s] w fun e w'=>e=.returned (qec r)/\Below w.heap.size w w':=by
 have HC:=hd hC;have HF:=hd hF;have HD:=hd qxm;have c1:(1:Int)<=(s.size:Int):=by omega
 clear hC hF hs;by_cases hb:b=false
 ·subst hb
  simp only[if_true]at hr;subst hr;go_enter Tryz.func194,Tryz.ntmps194
  go_wp2_with (first
   |(go_at_call 226;refine Calls.mono (HC.out _) ?_;rintro e w' ⟨rfl,rfl⟩)
   | (go_at_call 227;refine Calls.mono (HF.out _) ?_;rintro e w' ⟨A,rfl,hA,hK,hb⟩;have hS:=(qd5 w).next hb;obtain⟨⟨k0,k1,k2,k3,k4⟩,f0,f1,f2,f3,f4⟩:=hS.facts;have HS:=hd hS;clear hb hS hK))
  exact qgk (w0:=w) ⟨8,4,[],[],[]⟩ Tryz.results194 rfl rfl HS.out rfl
 obtain rfl:b=true:=by simpa using hb
 clear hb;simp only[Bool.true_eq_false,if_false]at hr;by_cases hn:F.length=2
 rotate_left
 ·have ha:r=⟨8,4,[],[],[]⟩:=by
   rw[hr];exact q50 _ (by rw[List.length_map];exact hn)
  have hc:((F.length:Int) != 2)=true:=by rw[bne_iff_ne];omega
  have Ha:¬(F.length:Int)=2:=by omega
  clear hr;subst ha;generalize F.length=n at HF hc Ha;clear hn;go_enter Tryz.func194,Tryz.ntmps194
  go_wp2_with (first
   |(go_at_call 226;refine Calls.mono (HC.out _) ?_;rintro e w' ⟨rfl,rfl⟩)
   | (go_at_call 227;refine Calls.mono (HF.out _) ?_;rintro e w' ⟨A,rfl,hA,hK,hb⟩;have hS:=(qd5 w).next hb;obtain⟨⟨k0,k1,k2,k3,k4⟩,f0,f1,f2,f3,f4⟩:=hS.facts;have HS:=hd hS;clear hb hS hK))
  exact qgk (w0:=w) ⟨8,4,[],[],[]⟩ Tryz.results194 rfl rfl HS.out rfl
 obtain⟨x,y,rfl⟩:∃x y,F=[x,y]:=by
  match F,hn with
  |[x,y],_=>exact⟨x,y,rfl⟩
 simp only[List.map_cons,List.map_nil,rdTg]at hr
 have Hb:Hid (∀w,Calls Tryz.prog 227 #[.string I,.func (.func 228) #[] #[]] w fun e w'=>∃A,e=.returned (.slice (some ⟨A,0,none⟩) 2 2)/\w.heap.size<=A /\
   (w'.cell? ⟨A,0,none⟩=some (.string x)/\w'.cell? ⟨A,1,none⟩=some (.string y))/\Below w.heap.size w w'):=fun w=>(HF.out w).mono (by
  rintro e w' ⟨A,he,hA,hK,hb⟩;exact⟨A,he,hA,⟨hK 0 x rfl,hK 1 y rfl⟩,hb⟩)
 clear HF hn;by_cases h1:Pl.qd7 x.data.toList=true
 rotate_left
 ·have h1:=Bool.eq_false_iff.2 h1
  have ha:r=⟨8,4,[],[],[]⟩:=by rw[hr,h1];simp
  clear hr;subst ha;have HX:Hid (∀w,Calls Tryz.prog 229 #[.string x] w fun e w'=>e=.returned (.bool false)/\w=w'):=fun w=>h1▸HD.out x w;clear h1 HD;go_enter Tryz.func194,Tryz.ntmps194
  go_wp2_with (first
   |(go_at_call 226;refine Calls.mono (HC.out _) ?_;rintro e w' ⟨rfl,rfl⟩)
   |(go_at_call 227;refine Calls.mono (Hb.out _) ?_;rintro e w' ⟨A,rfl,hA,⟨Hc,He⟩,hb⟩;have hS:=(qd5 w).next hb;obtain⟨⟨k0,k1,k2,k3,k4⟩,f0,f1,f2,f3,f4⟩:=hS.facts;have HS:=hd hS;clear hb hS)
   | (go_at_call 229;refine Calls.mono (HX.out _) ?_;rintro e w'' ⟨rfl,rfl⟩))
  exact qgk (w0:=w) ⟨8,4,[],[],[]⟩ Tryz.results194 rfl rfl HS.out rfl
 have HX:Hid (∀w,Calls Tryz.prog 229 #[.string x] w fun e w'=>e=.returned (.bool true)/\w=w'):=fun w=>h1▸HD.out x w;by_cases h2:Pl.qd7 y.data.toList=true
 rotate_left
 ·have h2:=Bool.eq_false_iff.2 h2
  have ha:r=⟨8,4,[],[],[]⟩:=by rw[hr,h2];simp
  clear hr;subst ha;obtain⟨dl,h1,h2,HZ⟩:∃dl:ByteArray->Bool,dl x=true/\dl y=false/\Hid (∀(z:ByteArray) (w:World),Calls Tryz.prog 229 #[.string z] w fun e w'=>e=.returned (.bool (dl z))/\w=w'):=⟨fun z=>Pl.qd7 z.data.toList,h1,h2,fun z w=>HD.out z w⟩;clear HD HX;go_enter Tryz.func194,Tryz.ntmps194
  go_wp2_with (first
   |(go_at_call 226;refine Calls.mono (HC.out _) ?_;rintro e w' ⟨rfl,rfl⟩)
   |(go_at_call 227;refine Calls.mono (Hb.out _) ?_;rintro e w' ⟨A,rfl,hA,⟨Hc,He⟩,hb⟩;have hS:=(qd5 w).next hb;obtain⟨⟨k0,k1,k2,k3,k4⟩,f0,f1,f2,f3,f4⟩:=hS.facts;have HS:=hd hS;clear hb hS)
   | (go_at_call 229;refine Calls.mono (HZ.out _ _) ?_;rintro e w'' ⟨rfl,rfl⟩;first | rw[h1] | rw[h2]))
  exact qgk (w0:=w) ⟨8,4,[],[],[]⟩ Tryz.results194 rfl rfl HS.out rfl
 have ha:r=⟨8,0,[],x.data.toList,y.data.toList⟩:=by rw[hr,h1,h2];simp
 obtain⟨dl,h1,h2,HZ⟩:∃dl:ByteArray->Bool,dl x=true/\dl y=true/\Hid (∀(z:ByteArray) (w:World),Calls Tryz.prog 229 #[.string z] w fun e w'=>e=.returned (.bool (dl z))/\w=w'):=⟨fun z=>Pl.qd7 z.data.toList,h1,h2,fun z w=>HD.out z w⟩;clear hr HD HX;subst ha;have HV:Hid (#[Value.int .i64 8,.int .i64 0,.string ⟨#[]⟩,.string x,.string y]=ql1 ⟨8,0,[],x.data.toList,y.data.toList⟩):=rfl;go_enter Tryz.func194,Tryz.ntmps194
 go_wp2_with (first
   |(go_at_call 226;refine Calls.mono (HC.out _) ?_;rintro e w' ⟨rfl,rfl⟩)
   |(go_at_call 227;refine Calls.mono (Hb.out _) ?_;rintro e w' ⟨A,rfl,hA,⟨Hc,He⟩,hb⟩;have hS:=(qd5 w).next hb;obtain⟨⟨k0,k1,k2,k3,k4⟩,f0,f1,f2,f3,f4⟩:=hS.facts;have HS:=hd hS;clear hb hS)
   | (go_at_call 229;refine Calls.mono (HZ.out _ _) ?_;rintro e w'' ⟨rfl,rfl⟩;first | rw[h1] | rw[h2]))
 have hc:A≠w.heap.size:=by
  have hf:∀o:Obj,(w.alloc o).heap.size=w.heap.size+1:=fun o=>by unfold World.alloc;simp only[Array.size_push]
  rw[hf]at hA;omega
 clear hA;go_region
 go_wp2_with fail
 exact qoi (w0:=w) (r:=⟨8,0,[],x.data.toList,y.data.toList⟩) Tryz.results194 rfl rfl (by rw[<-HV.out];exact qu1 HS.out.blk _ _ _ _ _) (qmw HS.out.below (Nat.le_refl _) _ _ _ _ _).drew
theorem za7(s:ByteArray):(s.extract 1 s.size).data.toList=s.data.toList.drop 1:=by
 rw[Lib.extract_eq];show List.take _ _=_;exact List.take_of_length_le (by simp)
theorem qp2(s:ByteArray)(w:World)(hs:s.size≠0)(hl:s.size<=100000) :
  Calls Tryz.prog 194 #[.string s] w fun e w'=>e=.returned (qec (Pl.qdc s.data.toList))/\Below w.heap.size w w':=by
 have hx:=za7 s;have ha:(s.extract 1 s.size).size<=s.size:=by simp
 have hI:(⟨(Lib.trimSuffix (s.data.toList.drop 1) [61]).toArray⟩:ByteArray).size<=100000:=by
  show(Lib.trimSuffix (s.data.toList.drop 1) [61]).length<=_;have h3:s.data.toList.length=s.size:=by simp
  unfold Lib.trimSuffix;split<;>simp<;>omega
 have hw:=qu5 ⟨(Lib.trimSuffix (s.data.toList.drop 1) [61]).toArray⟩;refine qp1 s w ⟨(Lib.trimSuffix (s.data.toList.drop 1) [61]).toArray⟩ (Lib.hasSuffix (s.data.toList.drop 1) [61]) (Lib.goFieldsP qcj ⟨(Lib.trimSuffix (s.data.toList.drop 1) [61]).toArray⟩) _ hs (fun w=>?_) (fun w=>qxt _ w hI) ?_
 ·refine(Tryz.strings_CutSuffix (s.extract 1 s.size) ⟨#[61]⟩ w (by omega)).mono ?_
  rintro e w' ⟨rfl,rfl⟩;rw[hx];exact⟨rfl,rfl⟩
 ·rw[q3i,<-hw]
theorem qwy(s:ByteArray)(w:World)(hs:s.size<=100000)(h8:Pl.qa0 s.data.toList=8) :
  Calls Tryz.prog 149 #[.string s] w fun e w'=>e=.returned (qec (Pl.qa9 s.data.toList))/\Below w.heap.size w w':=by
 have ha:s.size≠0:=fun q=>by
  have:s.data.toList=[]:=by
   apply List.eq_nil_of_length_eq_zero;simpa using q
  rw[this]at h8;exact absurd h8 (by decide)
 have HV:Pl.qa9 s.data.toList=Pl.qdc s.data.toList:=by unfold Pl.qa9;rw[h8];rfl
 rw[HV];have HR:Hid (#[Value.int .i64 (Pl.qdc s.data.toList).kind,.int .i64 (Pl.qdc s.data.toList).slip,bs (Pl.qdc s.data.toList).name,bs (Pl.qdc s.data.toList).op,bs (Pl.qdc s.data.toList).cl]=ql1 (Pl.qdc s.data.toList)):=rfl;have HN:=hd (fun w=>qp2 s w ha hs);have HK:=hd (fun w=>h8▸qgl s w);clear HV h8 ha hs;generalize Pl.qdc s.data.toList=r at HN HR |-;unfold qec at HN;unfold bs at HN HR;generalize (r.kind:Int)=r0 at HN HR;generalize (r.slip:Int)=r1 at HN HR;generalize (⟨r.name.toArray⟩:ByteArray)=r2 at HN HR;generalize (⟨r.op.toArray⟩:ByteArray)=r3 at HN HR;generalize (⟨r.cl.toArray⟩:ByteArray)=r4 at HN HR;go_enter Tryz.func149,Tryz.ntmps149
 go_wp2_with (first
   |(go_at_call 193;refine Calls.mono (HK.out _) ?_;rintro e w' ⟨rfl,rfl⟩)
   | (go_at_call 194;refine Calls.mono (HN.out _) ?_;rintro e w' ⟨rfl,hb⟩;have hS:=(qd5 w).next hb;obtain⟨⟨k0,k1,k2,k3,k4⟩,f0,f1,f2,f3,f4⟩:=hS.facts;have HS:=hd hS;clear hb hS))
 exact qgk (w0:=w) r Tryz.results149 rfl rfl HS.out HR.out
theorem qm0(t:List UInt8):qd2 t:=by
 intro L w hL hm hw;by_cases h8:Pl.qa0 L=8
 ·exact qwy ⟨L.toArray⟩ w (by rw[qbz];omega) h8
 ·exact q0u ⟨L.toArray⟩ w (by rw[qbz];omega) hw h8
end Go.Proofs.YtfkhljmiehdgmaaGreatDoor
