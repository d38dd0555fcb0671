/-
  Steps of the proof.
-/
import Derived.Test.YtfkhljmiehdgmaaGreatDoorCmBR
set_option maxRecDepth 100000
set_option maxHeartbeats 40000000
namespace Go.Proofs.YtfkhljmiehdgmaaGreatDoor
open Go.RowKit
variable{w:World}{B n:Nat}{W:List Pl.Vt}{K:Sk}{vW:Value}
theorem q03{B2 sz:Nat}{e:TypeId}{v:Value}{xs:List Value}(h:w.ownsRow B2 e sz v n xs)(hB:B<=B2):w.ownsRow B e sz v n xs:=by
 refine⟨h.1,?_⟩;rcases h.2 with q|⟨g,cap,cur,h1,h2,h3⟩
 ·exact .inl q
 ·exact .inr ⟨g,cap,cur,h1,by omega,h3⟩
theorem q8a{g cap:Nat}(h:w.ownsRow B 143 10 (.slice (some ⟨g,0,none⟩) W.length cap) W.length (qch W)):∀(j:Nat) (u:Value),(qch W)[j]?=some u->w.cell? ((⟨g,0,none⟩:Addr).add j)=some u:=by
 intro j u hu;have hl:=(List.getElem?_eq_some_iff.1 hu).1;rw[qkb]at hl;have e:(⟨g,0,none⟩:Addr).add j=⟨g,j,none⟩:=by simp[Addr.add];exact fun h=>h.symm
 rw[e,World.ownsRow.cellAt h j hl];exact hu
theorem q6t:(Tryz.prog.info? 143).map (fun i=>(i.zero,i.size,i.bytes))=some (some (.agg #[.int .i64 0,.int .i64 0,.int .i64 0,.int .i64 0,.int .i64 0,.int .i64 0,.int .i64 0,.int .i64 0,.string ⟨#[]⟩,.bool false]),10,88):=by kernel_rfl
theorem zad(W:List Pl.Vt):∀u∈qch W,u.oneCell'=true:=by
 intro u hu;unfold qch at hu;obtain⟨y,_,h⟩:=List.mem_flatMap.1 hu;simp[qcf]at h;rcases h with rfl|rfl|rfl|rfl|rfl|rfl|rfl|rfl|rfl|rfl<;>rfl
theorem q4r{R:List Pl.Vt}{w5:World}{E:List Pl.Et}{x:Pl.Sx}{r:Nat}{p0 p5:Pl.Sp}{ve5:Value}{E5:List Pl.Et}{r5:Nat}{ok:Bool}{a:Act}(hB:K.B<=w.heap.size)(hm:Enm K w w5 W vW p0 ve5 E5)(ha:Pl.EInv K.bd R r5 E5 W)(Hb:Pl.SpOk r5 p5)(Ha:E.length<=E5.length)(hc:r<=r5)(Hc:r5<=r+4000000*(E5.length - E.length)+0)
  (hb:ok=true->∃y,Pl.Done K.bd n x y/\Pl.ParX y p5/\Pl.Cm y) (he:ok=false->∀y,¬Pl.Done K.bd n x y) (h8:a.tmps.getD 8 undef=.pointer (some ⟨w.heap.size+1,0,none⟩)) (h9:a.tmps.getD 9 undef=.bool ok) (He:a.defers=[]) :
  bodyPost Tryz.prog Tryz.f58 (fun e w'=>EdO K R w E W n x r 0 e w') .ret a (set6 w5 (w.heap.size+1) (.int .i64 p5.mode) (.string ⟨p5.tag.toArray⟩) (.string ⟨p5.attr.toArray⟩) (.string ⟨p5.inside.toArray⟩) (.string ⟨p5.run.toArray⟩) (.int .i64 p5.far)):=by
 have ho:=hm.out hB (.int .i64 p5.mode) (.string ⟨p5.tag.toArray⟩) (.string ⟨p5.attr.toArray⟩) (.string ⟨p5.inside.toArray⟩) (.string ⟨p5.run.toArray⟩) (.int .i64 p5.far);refine qbm Tryz.results58 (w.heap.size+1) _ Tryz.underlying94 rfl (by kernel_rfl) h8 ⟨_,_,hm.res,rfl⟩ He _ _ _ _ _ _ _ h9 ?_;exact⟨p5,ok,ve5,E5,r5,rfl,ho.1,ha,Hb,Ha,hc,Hc,hb,he,ho.2⟩
theorem qvb{w0 wr:World}{p':Pl.Sp}{ve':Value}{E':List Pl.Et}(h:Enm K w0 wr W vW p' ve' E')(m:Nat):Enm K w0 (wr.drewN m) W vW p' ve' E':=
 ⟨h.spot,h.res,⟨h.at_.tp.same rfl (fun _ _=>rfl) fun _ _ _ _ _=>rfl,qac h.at_.ends fun _ _=>rfl⟩,qac h.wi fun _ _=>rfl,qay h.ck.below m,h.ck.keep⟩
theorem q9w(K:Sk)(R:List Pl.Vt)(hK:SkOk K)(k:Nat)(HE:za3 K R k):EndC K R (k+1):=by
 intro w ve vW E W n x p r hU hF Hb HF Hp Hi hn Hv HU ho hB hk hr;obtain⟨Q,hG⟩:∃Q:Ending->World->Prop,Q=fun e w'=>EdO K R w E W n x r 0 e w':=⟨_,rfl⟩;rw[<-hG];have H0:Hid (Enm K w ((w.alloc (.cells (qag p) 94)).alloc (.cells #[.int .i64 0,.string ⟨#[]⟩,.string ⟨#[]⟩,.string ⟨#[]⟩,.string ⟨#[]⟩,.int .i64 0] 94)) W vW p ve E):=by
  have hb:=((Below.refl w.heap.size w).alloc (Nat.le_refl _) (.cells (qag p) 94)).alloc (by simp) (.cells #[.int .i64 0,.string ⟨#[]⟩,.string ⟨#[]⟩,.string ⟨#[]⟩,.string ⟨#[]⟩,.int .i64 0] 94);exact⟨(heap_alloc_old _ _ (by simp)).trans (heap_alloc_new _ _),qal _ _ _ (by simp),hU.kept hb,qac hF fun q hq=>hb.block q (hF.lt q hq).2,Ck.of_below hb hB⟩
 have HI:=(show Hid (Pl.EInv K.bd R r E W)from Hb);have HX:=(show Hid (Pl.Cm x/\Pl.ParX x p/\Pl.SpOk r p/\Pl.InS K.bd R (n,x)/\(n,x)∉W/\(∀u∈W,Pl.Need K.bd u (n,x)))from⟨HF,Hp,Hi,Hv,HU,ho⟩);have hV:=hd (And.intro hk hr);have HKO:=hd hK;have Hn:=hd hB;have hA:=(show Hid (n<K.N.length)from hn);have H7:E.length<=429926418000:=by have:=Hb.few;omega
 have Ho:n<=100:=by have:=hK.six;omega
 have hw:=hd Ho;have hS:=fun W'=>qit p W' (by have:=Hi.tag;omega) (by have:=Hi.attr;omega) (by have:=Hi.inside;omega) (by have:=Hi.run;omega);rw[Pl.qc8 _ _ HF.fit.fit.ok Hp]at hS;unfold qau qag qep qcv at hS;have hW:=hd hS;unfold qau;unfold qag at H0 |-;clear hS hU hF Hb HF Hp Hi hn Hv HU ho hB hk hr hK Ho;go_enter Tryz.func58,Tryz.ntmps58
 go_upto_region 1 with fail
 generalize World.alloc _ _=w1 at H0 |-;have q0:=qaa H0.out.spot 0 _ rfl;have q1:=qaa H0.out.spot 1 _ rfl;have q2:=qaa H0.out.spot 2 _ rfl;have q3:=qaa H0.out.spot 3 _ rfl;have q4:=qaa H0.out.spot 4 _ rfl;have q5:=qaa H0.out.spot 5 _ rfl;go_upto_region 2 with(go_at_call 41;refine(hW.out _).mono ?_;rintro e w5 ⟨rfl,hb⟩;have HG:=hd (H0.out.kept hb (Nat.le_trans Hn.out (by have:=H0.out.lt;omega)));clear hb;dsimp only)
 have hf:=hd (HG.out.kept (w':=w5.alloc (.cells #[.int .i64 n,.int .i64 x.view.mode,.int .i64 x.view.elem,.int .i64 x.view.attr,.int .i64 x.view.ends,.int .i64 x.view.esc,.int .i64 x.view.pct,.int .i64 x.view.link,.string ⟨x.view.name.toArray⟩,.bool x.view.ref] 143)) (ba _) (Nat.le_trans Hn.out (by have:=HG.out.lt;omega)));have Hq:=heap_alloc_new w5 (.cells #[.int .i64 n,.int .i64 x.view.mode,.int .i64 x.view.elem,.int .i64 x.view.attr,.int .i64 x.view.ends,.int .i64 x.view.esc,.int .i64 x.view.pct,.int .i64 x.view.link,.string ⟨x.view.name.toArray⟩,.bool x.view.ref] 143);generalize World.alloc w5 _=w6 at hf Hq |-;generalize w5.heap.size=VB at Hq |-;have Hj:=hd Hq;clear Hq q0 q1 q2 q3 q4 q5 HG H0 hW;go_wp2_with fail
 go_loopw [11] (fun v11 wr=>∃(i m:Nat),v11=.int .i64 i/\i<=E.length/\wr=w6.drewN m/\Hid (∀(j:Nat) (e:Pl.Et),j<i->E[j]?=some e->(e.n,e.x)≠(n,x))) (fun v11 _=>E.length - (intOf v11).toNat)
 case atStart=>exact⟨0,0,rfl,Nat.zero_le _,rfl,fun j e hj=>absurd hj (Nat.not_lt_zero _)⟩
 case round=>
  obtain⟨i,m,rfl,hi,rfl,Hw⟩:=hrel;have v0:=qaa Hj.out 0 _ rfl;have v1:=qaa Hj.out 1 _ rfl;have v2:=qaa Hj.out 2 _ rfl;have v3:=qaa Hj.out 3 _ rfl;have v4:=qaa Hj.out 4 _ rfl;have v5:=qaa Hj.out 5 _ rfl;have v6:=qaa Hj.out 6 _ rfl;have v7:=qaa Hj.out 7 _ rfl;have v8:=qaa Hj.out 8 _ rfl;have v9:=qaa Hj.out 9 _ rfl;obtain⟨ao,cap,hv⟩:=qas hf.out.at_.ends;have c2:w6.cell? ⟨K.g,2,none⟩=some (.slice ao E.length cap):=(qaa hf.out.at_.tp.blk 2 _ rfl).trans (by rw[hv]);by_cases h8:i<E.length
  rotate_left
  ·have hI:¬(i:Int)<(E.length:Int):=by omega
   have H8:Hid ((n,x)∉E.map fun e=>(e.n,e.x)):=by
    show _∉_;intro h;obtain⟨e,he,h2⟩:=List.mem_map.1 h;obtain⟨j,hj,rfl⟩:=List.getElem_of_mem he;exact Hw.out j _ (by omega) (List.getElem?_eq_getElem hj) h2
   have Ht:=hd (qvb hf.out m);have Hf:=(show Hid ((w6.drewN m).heap[VB]?=_)from Hj.out);go_upto_region 8 with fail
   generalize w6.drewN m=w7 at Ht Hf |-;clear Hw hf Hj v0 v1 v2 v3 v4 v5 v6 v7 v8 v9 c2;obtain⟨i0,hJ,HW,hY,HY⟩:=info_parts q6t;have hWl:W.length<=429926418000:=by have:=HI.out.few;omega
   have hZ:K.B<=w7.heap.size:=Nat.le_trans Hn.out (by have:=Ht.out.lt;omega);go_cut [12] (fun s12 wx=>Hid (Below w7.heap.size w7 wx/\wx.ownsRow w7.heap.size 143 10 s12 W.length (qch W)))
   case first=>
    rcases Ht.out.wi.2 with⟨HJ,HK⟩|⟨gW,capW,curW,HJ,_,_,_⟩
    ·subst HJ
     go_wp2_with (at_builtin;refine wpList_append_own_none rfl _ _ 90 rfl w7.heap.size 143 i0 10 Tryz.underlying90 hJ _ 0 [] rfl (World.ownsRow_nil _ _ _ _) rfl ?_)
     go_meet
     have e:W=[]:=List.eq_nil_of_length_eq_zero HK;subst e;exact⟨Below.refl _ _,World.ownsRow_nil _ _ _ _⟩
    ·subst HJ
     by_cases HK:W.length=0
     ·have e:W=[]:=List.eq_nil_of_length_eq_zero HK
      subst e;go_wp2_with fail
      all_goals
       go_meet
       exact⟨Below.refl _ _,World.ownsRow_nil _ _ _ _⟩
     have hg:=Ht.out.wi;have hL:=hd hg;clear hg;go_wp2_with (at_builtin;refine wpList_append_own _ rfl _ _ 90 rfl w7.heap.size 143 i0 (.agg #[.int .i64 0,.int .i64 0,.int .i64 0,.int .i64 0,.int .i64 0,.int .i64 0,.int .i64 0,.int .i64 0,.string ⟨#[]⟩,.bool false]) 10 88 Tryz.underlying90 hJ HW hY HY rfl (by decide) (.slice none 0 0) 0 [] rfl (World.ownsRow_nil _ _ _ _) ⟨gW,0,none⟩ W.length capW (qch W) rfl (qkb W) (q8a hL.out) (zad W) (by unfold maxLen;omega) (by omega) (Nat.le_refl _) ?_)
     intro v' w8 Hc hp _;have hx:=(Below.refl w7.heap.size w7).grown hp (Nat.le_refl _) (fun k hk=>nomatch hk);have Hx:w8.ownsRow w7.heap.size 143 10 v' W.length (qch W):=by simpa using Hc
     clear Hc hp;go_wp2_with fail
     go_meet
     exact⟨hx,Hx⟩
   case rest=>
   obtain⟨hx,h0⟩:=hcut.out;have hy:=(hx.block VB (lta Hf.out)).trans Hf.out;have HL:=hd h0;have Hy:=hd hx;have hl:=hd hy;clear hx h0 hy hcut;have v0:=qaa hl.out 0 _ rfl;have v1:=qaa hl.out 1 _ rfl;have v2:=qaa hl.out 2 _ rfl;have v3:=qaa hl.out 3 _ rfl;have v4:=qaa hl.out 4 _ rfl;have v5:=qaa hl.out 5 _ rfl;have v6:=qaa hl.out 6 _ rfl;have v7:=qaa hl.out 7 _ rfl;have v8:=qaa hl.out 8 _ rfl;have v9:=qaa hl.out 9 _ rfl;have hW1:W.length+1<=429926418001:=by omega
   go_upto_region 10 with(at_builtin;refine wpList_append_own _ rfl _ _ 90 rfl w7.heap.size 143 i0 (.agg #[.int .i64 0,.int .i64 0,.int .i64 0,.int .i64 0,.int .i64 0,.int .i64 0,.int .i64 0,.int .i64 0,.string ⟨#[]⟩,.bool false]) 10 88 Tryz.underlying90 hJ HW hY HY rfl (by decide) _ _ _ rfl (World.ownsRow.alloc HL.out _) _ 1 1 [.int .i64 n,.int .i64 x.view.mode,.int .i64 x.view.elem,.int .i64 x.view.attr,.int .i64 x.view.ends,.int .i64 x.view.esc,.int .i64 x.view.pct,.int .i64 x.view.link,.string ⟨x.view.name.toArray⟩,.bool x.view.ref] rfl rfl (qc5 _ _ _) (by intro u hu;simp at hu;rcases hu with rfl|rfl|rfl|rfl|rfl|rfl|rfl|rfl|rfl|rfl<;>rfl) (by unfold maxLen;omega) (by omega) (by simp;have:=Hy.out.size;omega) ?_;intro v' w9 Hc hp _;have Hr:=hd Hc;have H1:=hd hp;clear Hc hp;dsimp only)
   have H2:w9.ownsRow w7.heap.size 143 10 v' (W++[(n,x)]).length (qch (W++[(n,x)])):=by
    rw[qmq,List.length_append];exact Hr.out
   have hM:Below w7.heap.size w7 w9:=(Hy.out.trans ((Below.refl _ _).alloc (by have:=Hy.out.size;omega) _)).grown H1.out (by simp;have:=Hy.out.size;omega) (fun k hk=>(World.ownsRow.lt HL.out k hk).1);have Ha:=hd (Ht.out.kept hM hZ);clear Hr H1 Hy hl v0 v1 v2 v3 v4 v5 v6 v7 v8 v9 HL;have Hg:Hid (w9.heap[VB]?=_):=(hM.block VB (lta Hf.out)).trans Hf.out;have Hr:=hd (q03 H2 hZ);have hN:Pl.EInv K.bd R r E (W++[(n,x)]):=by
    refine⟨HI.out.each,?_,fun u hu=>?_⟩
    ·rw[<-List.append_assoc]
     refine List.nodup_append.2 ⟨HI.out.apart,List.nodup_cons.2 ⟨List.not_mem_nil,List.nodup_nil⟩,?_⟩;intro a ha b hb e;rw[List.mem_singleton.1 hb]at e;subst e;rcases List.mem_append.1 ha with q|q
     ·exact H8.out q
     ·exact HX.out.2.2.2.2.1 q
    ·rcases List.mem_append.1 hu with q | q
     ·exact HI.out.wins u q
     ·rw[List.mem_singleton.1 q];exact⟨HX.out.2.2.2.1,HX.out.1⟩
   have HN:=hN.few;have h3:=hd hN;clear H2 hM hN Hf Ht;rw[List.length_append]at HN;simp only[List.length_cons,List.length_nil]at HN;have hO:=fun(W':World) (hm:Enm K w W' W vW p ve E) (hr:W'.ownsRow K.B 143 10 v' (W++[(n,x)]).length (qch (W++[(n,x)])))=>HE W' ve v' E (W++[(n,x)]) n x p r hm.at_ hr h3.out HX.out.1 HX.out.2.1 HX.out.2.2.1 hA.out HX.out.2.2.2.1 (fun u hu=>by
    rcases List.mem_append.1 hu with q|q
    ·exact .inr (HX.out.2.2.2.2.2 u q)
    ·exact .inl (List.mem_singleton.1 q)) (Nat.le_trans Hn.out (by have:=hm.lt;omega)) (by have:=hV.out.1;simp;omega) (by have:=hV.out.2;simp;omega)
   unfold qau qag at hO;have HO:=hd hO;clear hO;obtain⟨bP,capP,HA,_,_⟩:=qaj Ha.out.at_.tp.parts (by have:=hA.out;omega);have Hl:=Ha.out.at_.tp.parts;rw[HA]at Hl;obtain⟨nm,H3⟩:∃y,K.N[n]?=some y:=⟨_,List.getElem?_eq_getElem hA.out⟩;have HB:=(qht K.pv K.N 1 n nm H3).2;rw[Nat.add_comm 1 n]at HB;have cP:=(Hl.cellAt (n*2+1) (by rw[<-qgv K.pv K.N 1];exact(List.getElem?_eq_some_iff.1 HB).1)).trans HB;have c1:w9.cell? ⟨K.g,1,none⟩=some (.slice (some ⟨bP,0,none⟩) K.N.length capP):=(qaa Ha.out.at_.tp.blk 1 _ rfl).trans (by rw[HA]);have hnN:(n:Int)<(K.N.length:Int):=by have:=hA.out;omega
   have q0:=qaa Ha.out.spot 0 _ rfl;have q1:=qaa Ha.out.spot 1 _ rfl;have q2:=qaa Ha.out.spot 2 _ rfl;have q3:=qaa Ha.out.spot 3 _ rfl;have q4:=qaa Ha.out.spot 4 _ rfl;have q5:=qaa Ha.out.spot 5 _ rfl;have h4:bP<w9.heap.size:=(World.ownsRow.lt Ha.out.at_.tp.parts bP (by rw[HA];rfl)).2;have H4:=(lta Ha.out.at_.tp.blk);have He:=(lta Ha.out.spot);have q0':=fun o=>qaa ((heap_alloc_old w9 o He).trans Ha.out.spot) 0 _ rfl;have q1':=fun o=>qaa ((heap_alloc_old w9 o He).trans Ha.out.spot) 1 _ rfl;have q2':=fun o=>qaa ((heap_alloc_old w9 o He).trans Ha.out.spot) 2 _ rfl;have q3':=fun o=>qaa ((heap_alloc_old w9 o He).trans Ha.out.spot) 3 _ rfl;have q4':=fun o=>qaa ((heap_alloc_old w9 o He).trans Ha.out.spot) 4 _ rfl;have q5':=fun o=>qaa ((heap_alloc_old w9 o He).trans Ha.out.spot) 5 _ rfl;have cP':=fun o=>(((Below.refl w9.heap.size w9).alloc (Nat.le_refl _) o).cell h4).trans cP;have c1':=fun o=>(((Below.refl w9.heap.size w9).alloc (Nat.le_refl _) o).cell H4).trans c1;clear Hl HB HA H3 h4 H4 He;have h9:=hw.out;go_cut [13,14] (fun s13 s14 wx=>∃(ok:Bool) (TB:Nat),s13=.pointer (some ⟨TB,0,none⟩)/\s14=.bool ok/\Hid (∃p5 ve5 E5 r5,Enm K w wx W vW p ve5 E5/\wx.heap[TB]?=some (.cells (qag p5) 94 (0,0))/\wx.heap[VB]?=some (.cells #[.int .i64 n,.int .i64 x.view.mode,.int .i64 x.view.elem,.int .i64 x.view.attr,.int .i64 x.view.ends,.int .i64 x.view.esc,.int .i64 x.view.pct,.int .i64 x.view.link,.string ⟨x.view.name.toArray⟩,.bool x.view.ref] 143 (0,0))/\Pl.EInv K.bd R r5 E5 (W++[(n,x)])/\Pl.SpOk r5 p5/\E.length<=E5.length/\r<=r5/\r5<=r+4000000*(E5.length - E.length)+4000000/\(ok=true->∃y,Pl.Done K.bd n x y/\Pl.ParX y p5/\Pl.Cm y)/\(ok=false->∀y,¬Pl.Done K.bd n x y)))
   case first=>
    have hC:=(show Hid (VB<w9.heap.size)from(lta Hg.out));have hP:=(show Hid (K.B<=w9.heap.size)from Nat.le_trans Hn.out (by have:=Ha.out.lt;omega));have H9:=(show Hid (w.heap.size+1<w9.heap.size)from Ha.out.lt);have HP:=(show Hid _ from((Below.refl w9.heap.size w9).alloc (Nat.le_refl _) (.cells #[.int .i64 0,.string ⟨#[]⟩,.string ⟨#[]⟩,.string ⟨#[]⟩,.string ⟨#[]⟩,.int .i64 0] 94)).drew);go_wp2_with fail
    go_region_with (go_at_call 89;first
     |(refine Calls.mono (HO.out (w9.alloc (.cells #[.int .i64 0,.string ⟨#[]⟩,.string ⟨#[]⟩,.string ⟨#[]⟩,.string ⟨#[]⟩,.int .i64 0] 94)).drew (Ha.out.kept HP.out hP.out) (qac Hr.out fun q hq=>HP.out.block q (World.ownsRow.lt Hr.out q hq).2)) ?_;rintro e w8 ⟨p5,ok,ve5,E5,r5,rfl,Hu⟩;unfold qau qag;have HZ:=(show Hid _ from(Hu.ck.keep _ _ _ _ (heap_alloc_new w9 (.cells #[.int .i64 0,.string ⟨#[]⟩,.string ⟨#[]⟩,.string ⟨#[]⟩,.string ⟨#[]⟩,.int .i64 0] 94)) (by decide) (by decide)).trans (heap_alloc_new w9 (.cells #[.int .i64 0,.string ⟨#[]⟩,.string ⟨#[]⟩,.string ⟨#[]⟩,.string ⟨#[]⟩,.int .i64 0] 94)));have u0:=qaa HZ.out 0 _ rfl;have u1:=qaa HZ.out 1 _ rfl;have u2:=qaa HZ.out 2 _ rfl;have u3:=qaa HZ.out 3 _ rfl;have u4:=qaa HZ.out 4 _ rfl;have u5:=qaa HZ.out 5 _ rfl;have f0:=frozen_of_row _ _ 0 _ _ HZ.out;have f1:=frozen_of_row _ _ 1 _ _ HZ.out;have f2:=frozen_of_row _ _ 2 _ _ HZ.out;have f3:=frozen_of_row _ _ 3 _ _ HZ.out;have f4:=frozen_of_row _ _ 4 _ _ HZ.out;have f5:=frozen_of_row _ _ 5 _ _ HZ.out;have HD:=hd Hu;clear Hu;dsimp only)
     | (refine Calls.mono (HO.out w9.drew Ha.out.drew (qac Hr.out fun _ _=>rfl)) ?_;rintro e w8 ⟨p5,ok,ve5,E5,r5,rfl,Hu⟩;unfold qau qag;have HD:=hd Hu;clear Hu;dsimp only))
    all_goals
     go_wp2_with fail
     go_meet
     first
     |exact⟨ok,_,rfl,rfl,p5,ve5,E5,r5,(((Ha.out.kept HP.out hP.out).ended HD.out.ck HD.out.at_).setFar Hn.out HZ.out H9.out _ _ _ _ _ _),qg2 HZ.out _ _ _ _ _ _,(qci (Nat.ne_of_lt hC.out) _ _ _ _ _ _).trans ((HD.out.ck.keep _ _ _ _ ((heap_alloc_old w9 _ hC.out).trans Hg.out) (by decide) (by decide)).trans ((heap_alloc_old w9 _ hC.out).trans Hg.out)),HD.out.inv,HD.out.sp,HD.out.len,HD.out.up,HD.out.le,HD.out.yes,HD.out.no⟩
     |exact⟨ok,_,rfl,rfl,p5,ve5,E5,r5,((Ha.out.drew.ended HD.out.ck HD.out.at_).kept (ba _) (Nat.le_trans hP.out HD.out.ck.below.size)),heap_alloc_new _ _,(heap_alloc_old _ _ (Nat.lt_of_lt_of_le hC.out HD.out.ck.below.size)).trans ((HD.out.ck.keep _ _ _ _ Hg.out (by decide) (by decide)).trans Hg.out),HD.out.inv,HD.out.sp,HD.out.len,HD.out.up,HD.out.le,HD.out.yes,HD.out.no⟩
   case rest=>
   obtain⟨ok,TB,rfl,rfl,HC⟩:=hcut;obtain⟨p5,ve5,E5,r5,hm,h5,Hq,Hb,Hi,hs,hD,hQ,Hm,hz⟩:=HC.out;obtain⟨ao,cap,hv⟩:=qas hm.at_.ends;subst hv;have H7:E5.length+W.length+1<=429926418000:=by have:=Hb.few;simp at this;omega
   have HM:=hd hm;have HT:=(show Hid (wc.heap[TB]?=some (.cells (qag p5) 94 (0,0)))from h5);have HV:=(show Hid (wc.heap[VB]?=some (.cells #[.int .i64 n,.int .i64 x.view.mode,.int .i64 x.view.elem,.int .i64 x.view.attr,.int .i64 x.view.ends,.int .i64 x.view.esc,.int .i64 x.view.pct,.int .i64 x.view.link,.string ⟨x.view.name.toArray⟩,.bool x.view.ref] 143 (0,0)))from Hq);have HD:=(show Hid (Pl.EInv K.bd R r5 E5 (W++[(n,x)])/\Pl.SpOk r5 p5/\E.length<=E5.length/\r<=r5/\r5<=r+4000000*(E5.length - E.length)+4000000/\(ok=true->∃y,Pl.Done K.bd n x y/\Pl.ParX y p5/\Pl.Cm y)/\(ok=false->∀y,¬Pl.Done K.bd n x y))from⟨Hb,Hi,hs,hD,hQ,Hm,hz⟩);clear HC hm h5 Hq Hb Hi hs hD hQ Hm hz HO Hr Ha Hg h3 HN;have hGl:=(show Hid (K.g<wc.heap.size)from(lta HM.out.at_.tp.blk));have c2:=qaa HM.out.at_.tp.blk 2 _ rfl;have c2':=fun o=>(qfj wc o ⟨K.g,2,none⟩ hGl.out).trans (qaa HM.out.at_.tp.blk 2 _ rfl);obtain⟨v0,v1,v2,v3,v4,v5,v6,v7,v8,v9⟩:=qb7 HV.out;obtain⟨u0,u1,u2,u3,u4,u5⟩:=qar HT.out;obtain⟨i1,hi1,hy0,hy1,hy2⟩:=info_parts q6u;go_upto_region 11 with fail
   go_cut [] (fun wx=>∃ve6,Hid (Enm K w wx W vW p ve6 (E5++[⟨n,x,p5,ok⟩])/\wx.heap[TB]?=some (.cells (qag p5) 94 (0,0))))
   case first=>
    go_region_law (refine qbr rfl (.tmp 80) (.tmp 85) 99 rfl K.B 201 i1 (.agg #[.int .i64 0,.int .i64 0,.int .i64 0,.int .i64 0,.int .i64 0,.int .i64 0,.int .i64 0,.int .i64 0,.string ⟨#[]⟩,.bool false,.int .i64 0,.string ⟨#[]⟩,.string ⟨#[]⟩,.string ⟨#[]⟩,.string ⟨#[]⟩,.int .i64 0,.bool false]) 17 176 Tryz.underlying99 hi1 hy0 hy1 hy2 rfl (by decide) (.slice ao E5.length cap) E5.length _ (by simp[Act.eval]) (World.ownsRow.alloc HM.out.at_.ends _) ⟨_,0,none⟩ 1 1 (qew ⟨n,x,p5,ok⟩) (by simp[Act.eval]) rfl (qc5 _ _ _) (by intro u hu;simp[qew,qcf,qag]at hu;rcases hu with rfl|rfl|rfl|rfl|rfl|rfl|rfl|rfl|rfl|rfl|rfl|rfl|rfl|rfl|rfl|rfl|rfl<;>rfl) (by unfold maxLen;omega) (by omega) (by simp;have:=HM.out.lt;have:=Hn.out;omega) ?_;intro v' w6 Hc hp HQ;obtain⟨g',cap',rfl,_,_⟩:=qaj Hc (by omega);obtain⟨q4,r4⟩:=HM.out.at_.ahead (ba _).drew hp)
    all_goals
     go_wp2_with fail
     go_meet
     have hX:=HM.out.more Hn.out (ba _).drew ⟨n,x,p5,ok⟩ Hc hp HQ;exact⟨_,hX.1,(hX.2 _ _ _ HT.out).trans HT.out⟩
   case rest=>
   obtain⟨ve6,HZ⟩:=hcut;clear c2 c2' v0 v1 v2 v3 v4 v5 v6 v7 v8 v9 u0 u1 u2 u3 u4 u5 HM HT HV;obtain⟨u0,u1,u2,u3,u4,u5⟩:=qar HZ.out.2;obtain⟨r0,r1,r2,r3,r4,r5'⟩:=qar HZ.out.1.res;obtain⟨f0,f1,f2,f3,f4,f5⟩:=qd0 HZ.out.1.res;go_wp2_with fail
   try rw[hG]
   obtain⟨Hb,Hi,hs,hD,hQ,Hm,hz⟩:=HD.out;refine q4r (ok:=ok) (p5:=p5) (r5:=r5) Hn.out HZ.out.1 (q7a Hb ⟨HX.out.1,HX.out.2.2.2.1,Hi,Hm,hz⟩ rfl) Hi (by rw[List.length_append];omega) hD (by rw[List.length_append];simp;omega) Hm hz ?_ ?_ ?_
   all_goals rfl
  obtain⟨g7,cap7,h7,_,_⟩:=qaj hf.out.at_.ends (by omega);have HV7:=(show Hid (ve.ownBlock=some g7) by rw[h7];rfl);rw[hv]at h7;obtain⟨rfl,rfl⟩:ao=some ⟨g7,0,none⟩/\cap=cap7:=by injection h7 with a _ c;exact⟨a,c⟩
  clear h7;obtain⟨e,he⟩:∃e,E[i]?=some e:=⟨_,List.getElem?_eq_getElem h8⟩;have hg:=hf.out.at_.ends;rw[hv]at hg;have hc:=fun j v (hv:(qew e)[j]?=some v)=>(hg.cellAt (i*17+j) (by have:=qmg _ i e he j v hv;have:=(List.getElem?_eq_some_iff.1 this).1;rw[qxv]at this;exact this)).trans (qmg _ i e he j v hv);have c20:=hc 0 _ rfl;have c21:=hc 1 _ rfl;have c22:=hc 2 _ rfl;have c23:=hc 3 _ rfl;have c24:=hc 4 _ rfl;have c25:=hc 5 _ rfl;have c26:=hc 6 _ rfl;have c27:=hc 7 _ rfl;have c28:=hc 8 _ rfl;have c29:=hc 9 _ rfl;have HC:=hd hc;simp only[Nat.add_zero]at c20;have hI:(i:Int)<(E.length:Int):=by omega
  have HEe:=hd he;have Hs:=hd (HI.out.each e (List.mem_of_getElem? he));have H5:e.n<=100:=by
   obtain⟨_,_,_,_,_,h6,_⟩:=Hs.out.ins;have:e.n<6:=h6;omega
  have hE:=hd H5;clear hc hg he H5 hv;by_cases hq:(e.n,e.x)=(n,x)
  rotate_left
  ·have hb:(false=true↔(e.n=n/\e.x.view=x.view)):=⟨(fun h=>nomatch h),fun h=>absurd (Prod.ext h.1 (Pl.qta Hs.out.cm HX.out.1 h.2)) hq⟩
   have hR:=fun w'=>q7s w' (qet Hs.out.cm) (qet HX.out.1) hE.out hw.out hb;have HR:=fun w'=>qqd w' e.n n e.x.view x.view;have Hz:=fun w'=>qqe w' (qet Hs.out.cm) (qet HX.out.1) hE.out hw.out hb;unfold qfc at hR HR Hz;have HS:Hid (∀(j:Nat) (e':Pl.Et),j<i+1->E[j]?=some e'->(e'.n,e'.x)≠(n,x)):=fun j e' hj hT=>by
    rcases Nat.lt_or_ge j i with h|h
    ·exact Hw.out j e' h hT
    ·obtain rfl:j=i:=by omega
     rw[HEe.out]at hT;obtain rfl:=Option.some.inj hT;exact hq
   clear hq hb Hw;go_wp2_with fail
   go_region
   all_goals
    go_wp2_with fail
    refine⟨⟨i+1,m+1,by go_num,by omega,rfl,HS⟩,?_⟩;simp[intOf];omega
  have HQE:=hd hq;have hb:(true=true↔(e.n=n/\e.x.view=x.view)):=⟨fun _=>by injection hq with h1 h2;exact⟨h1,by rw[h2]⟩,fun _=>rfl⟩;have hR:=fun w'=>q7s w' (qet Hs.out.cm) (qet HX.out.1) hE.out hw.out hb;have HR:=fun w'=>qqd w' e.n n e.x.view x.view;have Hz:=fun w'=>qqe w' (qet Hs.out.cm) (qet HX.out.1) hE.out hw.out hb;unfold qfc at hR HR Hz;clear hq hb Hw;have c30:=HC.out 10 _ rfl;have c31:=HC.out 11 _ rfl;have c32:=HC.out 12 _ rfl;have c33:=HC.out 13 _ rfl;have c34:=HC.out 14 _ rfl;have c35:=HC.out 15 _ rfl;have c36:=HC.out 16 _ rfl;have H6:∃cur,w6.heap[g7]?=some (.cells cur 201 (0,0)):=qad hf.out.at_.ends g7 HV7.out;have hne1:¬K.g=w.heap.size+1:=qae hf.out.at_.tp.blk hf.out.res (by decide);have hne2:¬g7=w.heap.size+1:=by obtain⟨cur,hc⟩:=H6;exact qae hc hf.out.res (by decide)
  clear H6;have Hk:=hf;have rs0:=qaa Hk.out.res 0 _ rfl;have rs1:=qaa Hk.out.res 1 _ rfl;have rs2:=qaa Hk.out.res 2 _ rfl;have rs3:=qaa Hk.out.res 3 _ rfl;have rs4:=qaa Hk.out.res 4 _ rfl;have rs5:=qaa Hk.out.res 5 _ rfl;have z0:=frozen_of_row _ _ 0 _ _ Hk.out.res;have z1:=frozen_of_row _ _ 1 _ _ Hk.out.res;have z2:=frozen_of_row _ _ 2 _ _ Hk.out.res;have z3:=frozen_of_row _ _ 3 _ _ Hk.out.res;have z4:=frozen_of_row _ _ 4 _ _ Hk.out.res;have z5:=frozen_of_row _ _ 5 _ _ Hk.out.res;go_wp2_with fail
  go_region
  all_goals
   go_wp2_with fail
   go_region
   all_goals
    go_wp2_with fail
    have ht:=Hs.out;have Hz:=HQE.out;injection Hz with h1 h2;rw[hG];refine q4r (w5:=w6.drewN _) (ok:=e.ok) (p5:=e.p) Hn.out (qvb hf.out _) HI.out ht.sp (Nat.le_refl _) (Nat.le_refl _) (by omega) (fun h=>?_) (fun h=>?_) ?_ ?_ ?_
    ·obtain⟨y,a,b⟩:=ht.yes h
     rw[h1,h2]at a;exact⟨y,a,b⟩
    ·have:=ht.no h
     rw[h1,h2]at this;exact this
    all_goals rfl
end Go.Proofs.YtfkhljmiehdgmaaGreatDoor
