/-
  Steps of the proof.
-/
import Derived.Test.YtfkhljmiehdgmaaGreatDoorCmBM
set_option maxRecDepth 100000
set_option maxHeartbeats 40000000
namespace Go.Proofs.YtfkhljmiehdgmaaGreatDoor
open Go.RowKit Go.Maps
theorem qio(f:Pl.Ft):qku f=.agg #[.int .i64 f.code,.int .i64 f.kind,.string ⟨f.place.toArray⟩,.int .i64 f.pos]:=rfl
theorem q1l:qku Pl.Ft.none=.agg #[.int .i64 0,.int .i64 0,.string ⟨#[]⟩,.int .i64 0]:=rfl
theorem qhq{L:List (ByteArray×ByteArray)}(h:qbq L=true):L.length<=6/\Pl.qg7 (qbh L)=true/\∀p∈L,p.1.size<=100000:=by
 unfold qbq at h;simp only[Bool.and_eq_true,decide_eq_true_eq]at h;refine⟨h.1,h.2,fun p hp=>?_⟩;obtain⟨i,hi⟩:=List.getElem?_of_mem hp;have hx:(qbh L)[i]?=some p.1.data.toList:=by unfold qbh;rw[List.getElem?_map,hi];rfl
 have:=Pl.qo8 ((Pl.qe8 _).1 h.2 i _ hx).1;simp at this;omega
theorem q3w(T:ByteArray)(v:Value)(L:List (ByteArray×ByteArray))(w:World)(hA:qpx w v L)(hf:qbq L=true)(hm:qaz w)(hR:qd2 T.data.toList)(Hb:∀p∈L,qd2 p.2.data.toList)(r:Pl.Ft×List Pl.Src)(hr:Pl.qa4 (([],T.data.toList)::qaq L)=r)(hc:r.1.code≠0) :
  Calls Tryz.prog 29 #[.string T,v] w fun ed w'=>ed=.returned (.tuple #[.agg #[.slice none 0 0],qku r.1])/\Below w.heap.size w w':=by
 have h1:=fun w1 (hb:Below w.heap.size w w1)=>qk2 v L w1 (hA.kept hb);rw[hf]at h1;obtain⟨f1,f2,f3⟩:=qhq hf;have h2:=fun w1 (hb:Below w.heap.size w w1)=>qrd T v L w1 (hA.kept hb) f1 (hm.below hb) hR Hb f3 r hr;have H1:=hd h1;have H2:=hd h2;have Hc:((r.1.code:Int) != 0)=true:=by rw[bne_iff_ne];omega
 have HC:=hd hc;clear h1 hf hA h2 f1 f2 f3 hm hR Hb hr hc;rw[qio];go_enter Tryz.func29,Tryz.ntmps29
 go_wp2_with fail
 refine(H1.out _ (Mki.start w).below).mono ?_;rintro ed w1 ⟨rfl,hb⟩;have HK:=(show Hid _ from(Mki.start w).next hb);clear hb;generalize w.heap.size+1=R0 at HK |-;generalize w.heap.size=P0 at HK |-;go_wp2_with fail
 refine(H2.out _ HK.out.below).mono ?_;rintro ed w2 ⟨⟨h3,_⟩,hb⟩;obtain rfl:=h3 HC.out;rw[qio];have ha:=hd (HK.out.next hb);have Ha:=hd (ha.out.next (ba (.cells #[.int .i64 (r.1.code:Nat),.int .i64 r.1.kind,.string ⟨r.1.place.toArray⟩,.int .i64 (r.1.pos:Nat)] 31)));obtain⟨p0,q0,x0,x1,x2,x3,y0,y1,y2,y3⟩:=Ha.out.cells;have e1:w2.heap.size≠P0:=(Nat.ne_of_lt (Array.getElem?_eq_some_iff.1 ha.out.pl).1).symm;have e2:w2.heap.size≠R0:=(Nat.ne_of_lt (Array.getElem?_eq_some_iff.1 ha.out.ft).1).symm;have e3:P0≠R0:=ha.out.ne;have hE:=heap_alloc_new w2 (.cells #[.int .i64 (r.1.code:Nat),.int .i64 r.1.kind,.string ⟨r.1.place.toArray⟩,.int .i64 (r.1.pos:Nat)] 31);have l0:=qaa hE 0 _ rfl;have l1:=qaa hE 1 _ rfl;have l2:=qaa hE 2 _ rfl;have l3:=qaa hE 3 _ rfl;clear hb h3 hE ha HK;go_wp2_with fail
 generalize w2.heap.size=E at l0 l1 l2 l3 e1 e2 |-;generalize World.alloc w2 _=w3 at l0 l1 l2 l3 p0 q0 x0 x1 x2 x3 y0 y1 y2 y3 Ha |-;go_region
 all_goals
  go_wp2_with fail
  have hs:=Ha.out.set (.slice none 0 0) (.int .i64 (r.1.code:Nat)) (.int .i64 r.1.kind) (.string ⟨r.1.place.toArray⟩) (.int .i64 (r.1.pos:Nat));refine qhc Tryz.results29 rfl P0 R0 _ _ rfl rfl hs.1 hs.2.1 _ _ Tryz.underlying77 Tryz.underlying31 rfl rfl (by kernel_rfl) (by kernel_rfl) ?_;exact⟨rfl,hs.2.2.drew⟩
theorem qum(S:List Pl.Src)(len:Nat)(h:(Pl.qef S len).2.code=0):(Pl.qef S len).2=Pl.Ft.none:=by
 rw[Pl.qo3]at h |-;split at h
 ·rename_i q;exact absurd h q
 ·rename_i q1
  rw[if_neg q1];split at h
  ·rename_i q2;exact absurd h q2
  ·rename_i q2;rw[if_neg q2]
theorem q3x(HB:qg9)(T:ByteArray)(v:Value)(L:List (ByteArray×ByteArray))(w:World)(hA:qpx w v L)(hf:qbq L=true)(ht:PTabs w)(hm:qaz w)(hR:qd2 T.data.toList)(Hj:∀p∈L,qd2 p.2.data.toList)(S:List Pl.Src)(hr:Pl.qa4 (([],T.data.toList)::qaq L)=(Pl.Ft.none,S))(hS:SrcsOk S) :
  Calls Tryz.prog 29 #[.string T,v] w fun ed w'=>(∃ao n cap,ed=.returned (.tuple #[.agg #[.slice ao n cap],qku (Pl.qef S T.size).2])/\((Pl.qef S T.size).2.code=0->∃B F M s,w.heap.size<=B/\SvAt w' B F S (.slice ao n cap) M s/\s.vis=(Pl.qef S T.size).1))/\Below w.heap.size w w':=by
 have h1:=fun w1 (hb:Below w.heap.size w w1)=>qk2 v L w1 (hA.kept hb);rw[hf]at h1;obtain⟨f1,f2,f3⟩:=qhq hf;have h2:=fun w1 (hb:Below w.heap.size w w1)=>qrd T v L w1 (hA.kept hb) f1 (hm.below hb) hR Hj f3 _ hr;have h3:=fun(w1 w2:World) (g:Nat) (pv:Nat->Value) (hb:Below w.heap.size w w1) (hk:Below w1.heap.size w1 w2) (hs:SrcAt w2 w1.heap.size ⟨0,g,0,0,0,pv⟩ S)=>q6g HB S hS (q8e HB S hS 258) w2 w1.heap.size g pv T.size hs hk.size ⟨(ht.kept hb).kept hk,w1,ht.kept hb,Nat.le_refl _⟩;have H1:=hd h1;have H2:=hd h2;have He:=qum S T.size;generalize Pl.qef S T.size=q at h3 He |-;obtain⟨vis,f⟩:=q;simp only at h3 He |-;have Hn:=hd He;clear He;have H3:=hd h3;clear h1 hf hA h2 f1 f2 f3 hm hR Hj hr h3 ht hS;go_enter Tryz.func29,Tryz.ntmps29
 go_wp2_with fail
 refine(H1.out _ (Mki.start w).below).mono ?_;rintro ed w1 ⟨rfl,hb⟩;have HK:=(show Hid _ from(Mki.start w).next hb);clear hb H1;generalize w.heap.size+1=R0 at HK |-;generalize w.heap.size=P0 at HK |-;go_wp2_with fail
 refine(H2.out _ HK.out.below).mono ?_;rintro ed w2 ⟨⟨_,h3⟩,hb⟩;obtain⟨g,pv,rfl,Ha⟩:=h3 rfl;rw[q1l];have Hb:=hd (HK.out.next hb);have Hf:=hd (Hb.out.next (ba (.cells #[.int .i64 0,.int .i64 0,.string ⟨#[]⟩,.int .i64 0] 31)));have hg:=hd (hb.alloc hb.size (.cells #[.int .i64 0,.int .i64 0,.string ⟨#[]⟩,.int .i64 0] 31));have Hg:Hid (SrcAt (w2.alloc (.cells #[.int .i64 0,.int .i64 0,.string ⟨#[]⟩,.int .i64 0] 31)) w1.heap.size ⟨0,g,0,0,0,pv⟩ S):=SrcAt.kept Ha (by obtain⟨cs,fz,hc⟩:=Ha.blk;exact heap_alloc_old _ _ (Array.getElem?_eq_some_iff.1 hc).1) (fun i s k hs hv=>heap_alloc_old _ _ ((Ha.row i s hs).lt k hv).2);have e1:w2.heap.size≠P0:=(Nat.ne_of_lt (Array.getElem?_eq_some_iff.1 Hb.out.pl).1).symm;have e2:w2.heap.size≠R0:=(Nat.ne_of_lt (Array.getElem?_eq_some_iff.1 Hb.out.ft).1).symm;have e3:P0≠R0:=Hb.out.ne;have Hk:w.heap.size<=w2.heap.size:=Hb.out.below.size;have hl:=hd Hk;have hE:=hd (heap_alloc_new w2 (.cells #[.int .i64 0,.int .i64 0,.string ⟨#[]⟩,.int .i64 0] 31));clear hb h3 Hb Ha Hk H2;go_wp2_with fail
 generalize w2.heap.size=E at hE hl e1 e2 |-;generalize World.alloc w2 _=w3 at Hf hE hg Hg |-;refine(H3.out w1 w3 g pv HK.out.below hg.out Hg.out).mono ?_;rintro ed w4 ⟨⟨v4,rfl,hx⟩,Hl,hi⟩;rw[qio];have HX:=hd hx;have Hm:=hd (Hf.out.keeps hi Hl HK.out.below.size);have ha:=(show Hid _ from(hi _ _ _ _ hE.out (by decide) (by decide)).trans hE.out);have ho:=hd HK.out.below.size;have a0:w4.cell? ⟨E,0,none⟩=some (.int .i64 0):=qaa ha.out 0 _ rfl;have a1:w4.cell? ⟨E,1,none⟩=some (.int .i64 0):=qaa ha.out 1 _ rfl;have a2:w4.cell? ⟨E,2,none⟩=some (.string ⟨#[]⟩):=qaa ha.out 2 _ rfl;have a3:w4.cell? ⟨E,3,none⟩=some (.int .i64 0):=qaa ha.out 3 _ rfl;have b0:w4.frozen? ⟨E,0,none⟩=false:=by simp[World.frozen?,ha.out]
 have b1:w4.frozen? ⟨E,1,none⟩=false:=by simp[World.frozen?,ha.out]
 have b2:w4.frozen? ⟨E,2,none⟩=false:=by simp[World.frozen?,ha.out]
 have b3:w4.frozen? ⟨E,3,none⟩=false:=by simp[World.frozen?,ha.out]
 have he:=hd (Hm.out.beside hl.out e1.symm e2.symm (.int .i64 (f.code:Nat)) (.int .i64 f.kind) (.string ⟨f.place.toArray⟩) (.int .i64 (f.pos:Nat)));have Hc:=qg3 ha.out (.int .i64 (f.code:Nat)) (.int .i64 f.kind) (.string ⟨f.place.toArray⟩) (.int .i64 (f.pos:Nat));have Hi:Hid (f.code=0->∃F M s,SvAt ((((w4.setCell ⟨E,0,none⟩ (.int .i64 (f.code:Nat))).setCell ⟨E,1,none⟩ (.int .i64 f.kind)).setCell ⟨E,2,none⟩ (.string ⟨f.place.toArray⟩)).setCell ⟨E,3,none⟩ (.int .i64 (f.pos:Nat))) w1.heap.size F S v4 M s/\s.vis=vis):=fun q=>by
  obtain⟨F,M,s,h1,h2⟩:=HX.out q;exact⟨F,M,s,h1.fault4 ha.out _ _ _ _,h2⟩
 clear hx Hl hi HX Hf hg Hg hE HK H3;obtain⟨w5,hW⟩:∃w5,((((w4.setCell ⟨E,0,none⟩ (.int .i64 (f.code:Nat))).setCell ⟨E,1,none⟩ (.int .i64 f.kind)).setCell ⟨E,2,none⟩ (.string ⟨f.place.toArray⟩)).setCell ⟨E,3,none⟩ (.int .i64 (f.pos:Nat)))=w5:=⟨_,rfl⟩;rw[hW]at he Hc Hi;obtain⟨p0,q0,x0,x1,x2,x3,y0,y1,y2,y3⟩:=he.out.cells;have l0:=qaa Hc 0 _ rfl;have l1:=qaa Hc 1 _ rfl;have l2:=qaa Hc 2 _ rfl;have l3:=qaa Hc 3 _ rfl;clear Hc Hm ha;by_cases hc:f.code=0
 rotate_left
 ·have Ho:((f.code:Int) != 0)=true:=by rw[bne_iff_ne];omega
  have HC:=hd hc;clear hc;go_wp2_with fail
  clear a0 a1 a2 a3 b0 b1 b2 b3 hW;go_region
  all_goals
   go_wp2_with fail
   have hs:=he.out.set (.slice none 0 0) (.int .i64 (f.code:Nat)) (.int .i64 f.kind) (.string ⟨f.place.toArray⟩) (.int .i64 (f.pos:Nat));refine qhc Tryz.results29 rfl P0 R0 _ _ rfl rfl hs.1 hs.2.1 _ _ Tryz.underlying77 Tryz.underlying31 rfl rfl (by kernel_rfl) (by kernel_rfl) ?_;exact⟨⟨_,_,_,rfl,fun q=>absurd q HC.out⟩,hs.2.2.drew⟩
 ·have Ho:((f.code:Int) != 0)=false:=by rw[hc];rfl
  obtain⟨F,M,sr,hj,hn⟩:=Hi.out hc;obtain⟨av,cv,rfl⟩:=qas hj.row;have hp:=hd hj;have Hp:=hd hn;have HC:Hid (f=Pl.Ft.none):=Hn.out hc;clear hc hj hn Hi;generalize sr.vis.length=nv at *;go_wp2_with fail
  have hs:=he.out.set (.slice av nv cv) (.int .i64 0) (.int .i64 0) (.string ⟨#[]⟩) (.int .i64 0);refine qhc Tryz.results29 rfl P0 R0 _ _ rfl rfl hs.1 hs.2.1 _ _ Tryz.underlying77 Tryz.underlying31 rfl rfl (by kernel_rfl) (by kernel_rfl) ?_;refine⟨⟨av,nv,cv,by rw[HC.out];rfl,fun _=>⟨w1.heap.size,F,M,sr,ho.out,he.out.sv hp.out _ _ _ _ _,Hp.out⟩⟩,hs.2.2⟩
namespace Pl
theorem qvj:∀(Z:List (List UInt8×List UInt8)),(qa4 Z).1.code=0->(qa4 Z).1=Ft.none
 |[],_=>rfl
 |(n,t)::l,h=>by
   unfold qa4 at h |-;by_cases h0:(qam t).1.1=0
   ·rw[if_neg (fun q=>q h0)]at h |-
    by_cases h1:(qa4 l).1.code=0
    ·rw[if_neg (fun q=>q h1)]
    ·rw[if_pos h1]at h;exact absurd h h1
   ·rw[if_pos h0]at h;cases h
end Pl
theorem q3y(T:ByteArray)(L:List (ByteArray×ByteArray))(h:(Pl.qe9 T.data.toList (qaq L)).2.code=0):(Pl.qe9 T.data.toList (qaq L)).2=Pl.Ft.none:=by
 unfold Pl.qe9 at h |-;split at h
 ·cases h
 ·rename_i h1
  rw[if_neg h1];split at h
  ·rename_i h2;exact absurd h h2
  ·rename_i h2
   rw[if_neg h2];split at h
   ·rename_i h3;exact absurd h h3
   ·rename_i h3;rw[if_neg h3]
theorem q6f(HB:qg9)(T:ByteArray)(v:Value)(L:List (ByteArray×ByteArray))(w:World)(hA:qpx w v L)(ht:PTabs w)(hm:qaz w)(hR:qd2 T.data.toList)(ha:∀p∈L,qd2 p.2.data.toList) :
  Calls Tryz.prog 29 #[.string T,v] w fun ed w'=>(∃ao n cap,ed=.returned (.tuple #[.agg #[.slice ao n cap],qku (Pl.qe9 T.data.toList (qaq L)).2])/\((Pl.qe9 T.data.toList (qaq L)).2.code=0->∃B F M s,w.heap.size<=B/\SvAt w' B F (Pl.qe9 T.data.toList (qaq L)).1.2 (.slice ao n cap) M s/\s.vis=(Pl.qe9 T.data.toList (qaq L)).1.1))/\Below w.heap.size w w':=by
 have Ha:(qaq L).length=L.length:=by unfold qaq;rw[List.length_map]
 by_cases hf:qbq L=true
 rotate_left
 ·have hf:=Bool.eq_false_iff.2 hf
  have hv:Pl.qe9 T.data.toList (qaq L)=(([],[]),⟨1,0,[],0⟩):=by
   unfold Pl.qe9;rw[if_pos];rw[Ha,qkq];unfold qbq at hf;by_cases h6:L.length<=6
   ·rw[decide_eq_true h6,Bool.true_and]at hf;exact .inr hf
   ·exact .inl (by omega)
  rw[hv];refine(qul T v L w hA hf).mono ?_;rintro ed w' ⟨rfl,hb⟩;exact⟨⟨_,_,_,rfl,fun q=>by cases q⟩,hb⟩
 obtain⟨f1,f2,f3⟩:=qhq hf;rw[Pl.qq0 (by omega) (by rw[qkq];exact f2)];by_cases hc:(Pl.qa4 (([],T.data.toList)::qaq L)).1.code=0
 rotate_left
 ·rw[if_pos hc]
  refine(q3w T v L w hA hf hm hR ha _ rfl hc).mono ?_;rintro ed w' ⟨rfl,hb⟩;exact⟨⟨_,_,_,rfl,fun q=>absurd q hc⟩,hb⟩
 rw[if_neg (fun q=>q hc)];have hS:=q21 T.data.toList (qaq L) (by omega) (by rw[qkq];exact f2) hc;have hn:(Pl.qa4 (([],T.data.toList)::qaq L)).1=Pl.Ft.none:=Pl.qvj _ hc;have hr:Pl.qa4 (([],T.data.toList)::qaq L)=(Pl.Ft.none,(Pl.qa4 (([],T.data.toList)::qaq L)).2):=by rw[<-hn]
 have Hb:T.data.toList.length=T.size:=by simp
 rw[Hb];generalize (Pl.qa4 (([],T.data.toList)::qaq L)).2=S at hS hr;refine(q3x HB T v L w hA hf ht hm hR ha S hr hS).mono ?_;rintro ed w' ⟨⟨ao,n,cap,rfl,h1⟩,hb⟩;by_cases hk:(Pl.qef S T.size).2.code=0
 ·rw[if_neg (fun q=>q hk)]
  rw[qum S T.size hk]at h1 |-;exact⟨⟨ao,n,cap,rfl,fun _=>h1 rfl⟩,hb⟩
 ·rw[if_pos hk]
  exact⟨⟨ao,n,cap,rfl,fun q=>absurd q hk⟩,hb⟩
end Go.Proofs.YtfkhljmiehdgmaaGreatDoor
