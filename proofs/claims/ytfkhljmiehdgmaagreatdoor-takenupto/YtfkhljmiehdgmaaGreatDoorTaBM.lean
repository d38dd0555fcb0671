/-
  Steps of the proof (texts laid together, blanks left out): PoI.
-/
import Derived.Test.YtfkhljmiehdgmaaGreatDoorTaBG
namespace Go.Proofs.YtfkhljmiehdgmaaGreatDoor
open Go.RowKit Go.Maps
theorem qhz (f:Pl.Ft):ql2 f=.agg #[.int .i64 f.code,.int .i64 f.kind,.string ⟨f.place.toArray⟩,.int .i64 f.pos]:=rfl
theorem qy7:ql2 Pl.Ft.none=.agg #[.int .i64 0,.int .i64 0,.string ⟨#[]⟩,.int .i64 0]:=rfl
theorem qg6 {L:List (ByteArray×ByteArray)} (h:qfz L=true):L.length≤6∧Pl.qgm (qch L)=true∧∀ p∈L,p.1.size≤100000:=by
 unfold qfz at h
 simp only[Bool.and_eq_true,decide_eq_true_eq]at h
 refine⟨h.1,h.2,fun p hp=>?_⟩
 obtain⟨i,hi⟩:=List.getElem?_of_mem hp
 have hx:(qch L)[i]?=some p.1.data.toList:=by unfold qch; rw[List.getElem?_map,hi]; rfl
 have:=Pl.qnv ((Pl.qf4 _).1 h.2 i _ hx).1
 simp at this
 omega
set_option maxRecDepth 100000 in
set_option maxHeartbeats 6400000 in
theorem q05 (T:ByteArray) (v:Value) (L:List (ByteArray×ByteArray)) (w:World) (hA:qop w v L) (hf:qfz L=true) (hm:qay w) (hR:qc8 T.data.toList) (hRL:∀ p∈L,qc8 p.2.data.toList) (r:Pl.Ft×List Pl.Src) (hr:Pl.qa8 (([],T.data.toList)::qa9 L)=r) (hc:r.1.code≠0) :
  Calls Tryz.prog 29 #[.string T,v] w fun ed w'=>ed=.returned (.tuple #[.agg #[.slice none 0 0],ql2 r.1])∧Below w.heap.size w w':=by
 have h1:=fun w1 (hb:Below w.heap.size w w1)=>qj3 v L w1 (hA.kept hb)
 rw[hf]at h1
 obtain⟨f1,f2,f3⟩:=qg6 hf
 have h2:=fun w1 (hb:Below w.heap.size w w1)=>qp1 T v L w1 (hA.kept hb) f1 (hm.below hb) hR hRL f3 r hr
 have H1:=(show Hid _ from h1)
 have H2:=(show Hid _ from h2)
 have hc1:((r.1.code:Int) != 0)=true:=by rw[bne_iff_ne]; omega
 have HC:=(show Hid _ from hc)
 clear h1 hf hA h2 f1 f2 f3 hm hR hRL hr hc
 rw[qhz]
 go_enter Tryz.func29,Tryz.ntmps29
 go_wp2_with fail
 refine(H1.out _ (Mki.start w).below).mono ?_; rintro ed w1 ⟨rfl,hb⟩
 have HK:=(show Hid _ from(Mki.start w).next hb)
 clear hb
 generalize w.heap.size+1=R0 at HK ⊢
 generalize w.heap.size=P0 at HK ⊢
 go_wp2_with fail
 refine(H2.out _ HK.out.below).mono ?_; rintro ed w2 ⟨⟨h3,_⟩,hb⟩
 obtain rfl:=h3 HC.out
 rw[qhz]
 have HK2:=(show Hid _ from HK.out.next hb)
 have HK3:=(show Hid _ from HK2.out.next ((Below.refl _ _).alloc (Nat.le_refl _) (.cells #[.int .i64 (r.1.code:Nat),.int .i64 r.1.kind,.string ⟨r.1.place.toArray⟩,.int .i64 (r.1.pos:Nat)] 31)))
 obtain⟨p0,q0,x0,x1,x2,x3,y0,y1,y2,y3⟩:=HK3.out.cells
 have e1:w2.heap.size≠P0:=(Nat.ne_of_lt (Array.getElem?_eq_some_iff.1 HK2.out.pl).1).symm
 have e2:w2.heap.size≠R0:=(Nat.ne_of_lt (Array.getElem?_eq_some_iff.1 HK2.out.ft).1).symm
 have e3:P0≠R0:=HK2.out.ne
 have hE:=heap_alloc_new w2 (.cells #[.int .i64 (r.1.code:Nat),.int .i64 r.1.kind,.string ⟨r.1.place.toArray⟩,.int .i64 (r.1.pos:Nat)] 31)
 have l0:=qaa hE 0 _ rfl
 have l1:=qaa hE 1 _ rfl
 have l2:=qaa hE 2 _ rfl
 have l3:=qaa hE 3 _ rfl
 clear hb h3 hE HK2 HK
 go_wp2_with fail
 generalize w2.heap.size=E at l0 l1 l2 l3 e1 e2 ⊢
 generalize World.alloc w2 _=w3 at l0 l1 l2 l3 p0 q0 x0 x1 x2 x3 y0 y1 y2 y3 HK3 ⊢
 go_region
 all_goals
  go_wp2_with fail
  have hs:=HK3.out.set (.slice none 0 0) (.int .i64 (r.1.code:Nat)) (.int .i64 r.1.kind) (.string ⟨r.1.place.toArray⟩) (.int .i64 (r.1.pos:Nat))
  refine qgs Tryz.results29 rfl P0 R0 _ _ rfl rfl hs.1 hs.2.1 _ _ Tryz.underlying77 Tryz.underlying31 rfl rfl (by kernel_rfl) (by kernel_rfl) ?_
  exact⟨rfl,hs.2.2.drew⟩
theorem qsz (S:List Pl.Src) (len:Nat) (h:(Pl.qdq S len).2.code=0):(Pl.qdq S len).2=Pl.Ft.none:=by
 rw[Pl.qnp]at h ⊢
 split at h
 ·rename_i q; exact absurd h q
 ·rename_i q1
  rw[if_neg q1]
  split at h
  ·rename_i q2; exact absurd h q2
  ·rename_i q2; rw[if_neg q2]
set_option maxRecDepth 100000 in
set_option maxHeartbeats 12800000 in
theorem q06 (HB:qgn) (T:ByteArray) (v:Value) (L:List (ByteArray×ByteArray)) (w:World) (hA:qop w v L) (hf:qfz L=true) (ht:PTabs w) (hm:qay w) (hR:qc8 T.data.toList) (hRL:∀ p∈L,qc8 p.2.data.toList) (S:List Pl.Src) (hr:Pl.qa8 (([],T.data.toList)::qa9 L)=(Pl.Ft.none,S)) (hS:SrcsOk S) :
  Calls Tryz.prog 29 #[.string T,v] w fun ed w'=>(∃ ao n cap,ed=.returned (.tuple #[.agg #[.slice ao n cap],ql2 (Pl.qdq S T.size).2])∧((Pl.qdq S T.size).2.code=0→∃ B F M s,w.heap.size≤B∧SvAt w' B F S (.slice ao n cap) M s∧s.vis=(Pl.qdq S T.size).1))∧Below w.heap.size w w':=by
 have h1:=fun w1 (hb:Below w.heap.size w w1)=>qj3 v L w1 (hA.kept hb)
 rw[hf]at h1
 obtain⟨f1,f2,f3⟩:=qg6 hf
 have h2:=fun w1 (hb:Below w.heap.size w w1)=>qp1 T v L w1 (hA.kept hb) f1 (hm.below hb) hR hRL f3 _ hr
 have h3:=fun(w1 w2:World) (g:Nat) (pv:Nat→Value) (hb:Below w.heap.size w w1) (hb2:Below w1.heap.size w1 w2) (hs:SrcAt w2 w1.heap.size ⟨0,g,0,0,0,pv⟩ S)=>q3t HB S hS (q5n HB S hS 258) w2 w1.heap.size g pv T.size hs hb2.size ⟨(ht.kept hb).kept hb2,w1,ht.kept hb,Nat.le_refl _⟩
 have H1:=(show Hid _ from h1)
 have H2:=(show Hid _ from h2)
 have hfn:=qsz S T.size
 generalize Pl.qdq S T.size=q at h3 hfn ⊢
 obtain⟨vis,f⟩:=q
 simp only at h3 hfn ⊢
 have HFn:=(show Hid _ from hfn)
 clear hfn
 have H3:=(show Hid _ from h3)
 clear h1 hf hA h2 f1 f2 f3 hm hR hRL hr h3 ht hS
 go_enter Tryz.func29,Tryz.ntmps29
 go_wp2_with fail
 refine(H1.out _ (Mki.start w).below).mono ?_; rintro ed w1 ⟨rfl,hb⟩
 have HK:=(show Hid _ from(Mki.start w).next hb)
 clear hb H1
 generalize w.heap.size+1=R0 at HK ⊢
 generalize w.heap.size=P0 at HK ⊢
 go_wp2_with fail
 refine(H2.out _ HK.out.below).mono ?_; rintro ed w2 ⟨⟨_,h3⟩,hb⟩
 obtain⟨g,pv,rfl,hsrc⟩:=h3 rfl
 rw[qy7]
 have HK2:=(show Hid _ from HK.out.next hb)
 have HK3:=(show Hid _ from HK2.out.next ((Below.refl _ _).alloc (Nat.le_refl _) (.cells #[.int .i64 0,.int .i64 0,.string ⟨#[]⟩,.int .i64 0] 31)))
 have HB3:=(show Hid _ from hb.alloc hb.size (.cells #[.int .i64 0,.int .i64 0,.string ⟨#[]⟩,.int .i64 0] 31))
 have HS3:Hid (SrcAt (w2.alloc (.cells #[.int .i64 0,.int .i64 0,.string ⟨#[]⟩,.int .i64 0] 31)) w1.heap.size ⟨0,g,0,0,0,pv⟩ S):=SrcAt.kept hsrc (by obtain⟨cs,fz,hc⟩:=hsrc.blk; exact heap_alloc_old _ _ (Array.getElem?_eq_some_iff.1 hc).1) (fun i s k hs hv=>heap_alloc_old _ _ ((hsrc.row i s hs).lt k hv).2)
 have e1:w2.heap.size≠P0:=(Nat.ne_of_lt (Array.getElem?_eq_some_iff.1 HK2.out.pl).1).symm
 have e2:w2.heap.size≠R0:=(Nat.ne_of_lt (Array.getElem?_eq_some_iff.1 HK2.out.ft).1).symm
 have e3:P0≠R0:=HK2.out.ne
 have hle:w.heap.size≤w2.heap.size:=HK2.out.below.size
 have HLe:=(show Hid _ from hle)
 have hE:=(show Hid _ from heap_alloc_new w2 (.cells #[.int .i64 0,.int .i64 0,.string ⟨#[]⟩,.int .i64 0] 31))
 clear hb h3 HK2 hsrc hle H2
 go_wp2_with fail
 generalize w2.heap.size=E at hE HLe e1 e2 ⊢
 generalize World.alloc w2 _=w3 at HK3 hE HB3 HS3 ⊢
 refine(H3.out w1 w3 g pv HK.out.below HB3.out HS3.out).mono ?_; rintro ed w4 ⟨⟨v4,rfl,hx⟩,hb4,hkp⟩
 rw[qhz]
 have HX:=(show Hid _ from hx)
 have HK4:=(show Hid _ from HK3.out.keeps hkp hb4 HK.out.below.size)
 have HE4:=(show Hid _ from(hkp _ _ _ _ hE.out (by decide) (by decide)).trans hE.out)
 have HB1:=(show Hid _ from HK.out.below.size)
 have a0:w4.cell? ⟨E,0,none⟩=some (.int .i64 0):=qaa HE4.out 0 _ rfl
 have a1:w4.cell? ⟨E,1,none⟩=some (.int .i64 0):=qaa HE4.out 1 _ rfl
 have a2:w4.cell? ⟨E,2,none⟩=some (.string ⟨#[]⟩):=qaa HE4.out 2 _ rfl
 have a3:w4.cell? ⟨E,3,none⟩=some (.int .i64 0):=qaa HE4.out 3 _ rfl
 have b0:w4.frozen? ⟨E,0,none⟩=false:=by simp[World.frozen?,HE4.out]
 have b1:w4.frozen? ⟨E,1,none⟩=false:=by simp[World.frozen?,HE4.out]
 have b2:w4.frozen? ⟨E,2,none⟩=false:=by simp[World.frozen?,HE4.out]
 have b3:w4.frozen? ⟨E,3,none⟩=false:=by simp[World.frozen?,HE4.out]
 have HK5:=(show Hid _ from HK4.out.beside HLe.out e1.symm e2.symm (.int .i64 (f.code:Nat)) (.int .i64 f.kind) (.string ⟨f.place.toArray⟩) (.int .i64 (f.pos:Nat)))
 have hE5:=qgh HE4.out (.int .i64 (f.code:Nat)) (.int .i64 f.kind) (.string ⟨f.place.toArray⟩) (.int .i64 (f.pos:Nat))
 have HV5:Hid (f.code=0→∃ F M s,SvAt ((((w4.setCell ⟨E,0,none⟩ (.int .i64 (f.code:Nat))).setCell ⟨E,1,none⟩ (.int .i64 f.kind)).setCell ⟨E,2,none⟩ (.string ⟨f.place.toArray⟩)).setCell ⟨E,3,none⟩ (.int .i64 (f.pos:Nat))) w1.heap.size F S v4 M s∧s.vis=vis):=fun q=>by
  obtain⟨F,M,s,h1,h2⟩:=HX.out q
  exact⟨F,M,s,h1.fault4 HE4.out _ _ _ _,h2⟩
 clear hx hb4 hkp HX HK3 HB3 HS3 hE HK H3
 obtain⟨w5,hW⟩:∃ w5,((((w4.setCell ⟨E,0,none⟩ (.int .i64 (f.code:Nat))).setCell ⟨E,1,none⟩ (.int .i64 f.kind)).setCell ⟨E,2,none⟩ (.string ⟨f.place.toArray⟩)).setCell ⟨E,3,none⟩ (.int .i64 (f.pos:Nat)))=w5:=⟨_,rfl⟩
 rw[hW]at HK5 hE5 HV5
 obtain⟨p0,q0,x0,x1,x2,x3,y0,y1,y2,y3⟩:=HK5.out.cells
 have l0:=qaa hE5 0 _ rfl
 have l1:=qaa hE5 1 _ rfl
 have l2:=qaa hE5 2 _ rfl
 have l3:=qaa hE5 3 _ rfl
 clear hE5 HK4 HE4
 by_cases hc:f.code=0
 rotate_left
 ·have hc1:((f.code:Int) != 0)=true:=by rw[bne_iff_ne]; omega
  have HC:=(show Hid _ from hc)
  clear hc
  go_wp2_with fail
  clear a0 a1 a2 a3 b0 b1 b2 b3 hW
  go_region
  all_goals
   go_wp2_with fail
   have hs:=HK5.out.set (.slice none 0 0) (.int .i64 (f.code:Nat)) (.int .i64 f.kind) (.string ⟨f.place.toArray⟩) (.int .i64 (f.pos:Nat))
   refine qgs Tryz.results29 rfl P0 R0 _ _ rfl rfl hs.1 hs.2.1 _ _ Tryz.underlying77 Tryz.underlying31 rfl rfl (by kernel_rfl) (by kernel_rfl) ?_
   exact⟨⟨_,_,_,rfl,fun q=>absurd q HC.out⟩,hs.2.2.drew⟩
 ·have hc1:((f.code:Int) != 0)=false:=by rw[hc]; rfl
  obtain⟨F,M,sr,hsv,hvi⟩:=HV5.out hc
  obtain⟨av,cv,rfl⟩:=qcd hsv.row
  have HSV:=(show Hid _ from hsv)
  have HVI:=(show Hid _ from hvi)
  have HC:Hid (f=Pl.Ft.none):=HFn.out hc
  clear hc hsv hvi HV5
  generalize sr.vis.length=nv at *
  go_wp2_with fail
  have hs:=HK5.out.set (.slice av nv cv) (.int .i64 0) (.int .i64 0) (.string ⟨#[]⟩) (.int .i64 0)
  refine qgs Tryz.results29 rfl P0 R0 _ _ rfl rfl hs.1 hs.2.1 _ _ Tryz.underlying77 Tryz.underlying31 rfl rfl (by kernel_rfl) (by kernel_rfl) ?_
  refine⟨⟨av,nv,cv,by rw[HC.out]; rfl,fun _=>⟨w1.heap.size,F,M,sr,HB1.out,HK5.out.sv HSV.out _ _ _ _ _,HVI.out⟩⟩,hs.2.2⟩
namespace Pl
theorem qtu:∀(Z:List (List UInt8×List UInt8)),(qa8 Z).1.code=0→(qa8 Z).1=Ft.none
 | [],_=>rfl
 | (n,t)::l,h=>by
   unfold qa8 at h ⊢
   by_cases h0:(qav t).1.1=0
   ·rw[if_neg (fun q=>q h0)]at h ⊢
    by_cases h1:(qa8 l).1.code=0
    ·rw[if_neg (fun q=>q h1)]
    ·rw[if_pos h1]at h; exact absurd h h1
   ·rw[if_pos h0]at h; cases h
end Pl
theorem q07 (T:ByteArray) (L:List (ByteArray×ByteArray)) (h:(Pl.qbe T.data.toList (qa9 L)).2.code=0):(Pl.qbe T.data.toList (qa9 L)).2=Pl.Ft.none:=by
 unfold Pl.qbe at h ⊢
 split at h
 ·cases h
 ·rename_i h1
  rw[if_neg h1]
  split at h
  ·rename_i h2; exact absurd h h2
  ·rename_i h2
   rw[if_neg h2]
   split at h
   ·rename_i h3; exact absurd h h3
   ·rename_i h3; rw[if_neg h3]
theorem q3q (HB:qgn) (T:ByteArray) (v:Value) (L:List (ByteArray×ByteArray)) (w:World) (hA:qop w v L) (ht:PTabs w) (hm:qay w) (hR:qc8 T.data.toList) (hRL:∀ p∈L,qc8 p.2.data.toList) :
  Calls Tryz.prog 29 #[.string T,v] w fun ed w'=>(∃ ao n cap,ed=.returned (.tuple #[.agg #[.slice ao n cap],ql2 (Pl.qbe T.data.toList (qa9 L)).2])∧((Pl.qbe T.data.toList (qa9 L)).2.code=0→∃ B F M s,w.heap.size≤B∧SvAt w' B F (Pl.qbe T.data.toList (qa9 L)).1.2 (.slice ao n cap) M s∧s.vis=(Pl.qbe T.data.toList (qa9 L)).1.1))∧Below w.heap.size w w':=by
 have hpl:(qa9 L).length=L.length:=by unfold qa9; rw[List.length_map]
 by_cases hf:qfz L=true
 rotate_left
 ·have hf:=Bool.eq_false_iff.2 hf
  have hv:Pl.qbe T.data.toList (qa9 L)=(([],[]),⟨1,0,[],0⟩):=by
   unfold Pl.qbe
   rw[if_pos]
   rw[hpl,qjt]
   unfold qfz at hf
   by_cases h6:L.length≤6
   ·rw[decide_eq_true h6,Bool.true_and]at hf; exact .inr hf
   ·exact .inl (by omega)
  rw[hv]
  refine(qsy T v L w hA hf).mono ?_
  rintro ed w' ⟨rfl,hb⟩
  exact⟨⟨_,_,_,rfl,fun q=>by cases q⟩,hb⟩
 obtain⟨f1,f2,f3⟩:=qg6 hf
 rw[Pl.qi2 (by omega) (by rw[qjt]; exact f2)]
 by_cases hc:(Pl.qa8 (([],T.data.toList)::qa9 L)).1.code=0
 rotate_left
 ·rw[if_pos hc]
  refine(q05 T v L w hA hf hm hR hRL _ rfl hc).mono ?_
  rintro ed w' ⟨rfl,hb⟩
  exact⟨⟨_,_,_,rfl,fun q=>absurd q hc⟩,hb⟩
 rw[if_neg (fun q=>q hc)]
 have hS:=q0d T.data.toList (qa9 L) (by omega) (by rw[qjt]; exact f2) hc
 have hn:(Pl.qa8 (([],T.data.toList)::qa9 L)).1=Pl.Ft.none:=Pl.qtu _ hc
 have hr:Pl.qa8 (([],T.data.toList)::qa9 L)=(Pl.Ft.none,(Pl.qa8 (([],T.data.toList)::qa9 L)).2):=by rw[← hn]
 have hsz:T.data.toList.length=T.size:=by simp
 rw[hsz]
 generalize (Pl.qa8 (([],T.data.toList)::qa9 L)).2=S at hS hr
 refine(q06 HB T v L w hA hf ht hm hR hRL S hr hS).mono ?_
 rintro ed w' ⟨⟨ao,n,cap,rfl,h1⟩,hb⟩
 by_cases hk:(Pl.qdq S T.size).2.code=0
 ·rw[if_neg (fun q=>q hk)]
  rw[qsz S T.size hk]at h1 ⊢
  exact⟨⟨ao,n,cap,rfl,fun _=>h1 rfl⟩,hb⟩
 ·rw[if_pos hk]
  exact⟨⟨ao,n,cap,rfl,fun q=>absurd q hk⟩,hb⟩
end Go.Proofs.YtfkhljmiehdgmaaGreatDoor
