/-
  Steps of the proof.
-/
import Derived.Test.YtfkhljmiehdgmaaGreatDoorCuBS
set_option maxRecDepth 100000
set_option maxHeartbeats 40000000
namespace Go.Proofs.YtfkhljmiehdgmaaGreatDoor
open Go.RowKit Go.Proofs.Tryz Pl
variable{w:World}{B n:Nat}{W:List Vt}{K:Sk}{vW:Value}
theorem q5d{B2 sz:Nat}{e:TypeId}{v:Value}{xs:List Value}(h:w.ownsRow B2 e sz v n xs)(hB:B<=B2):w.ownsRow B e sz v n xs:=by
 refine⟨h.1,?_⟩;rcases h.2 with q|⟨g,cap,cur,h1,h2,h3⟩
 ·exact .inl q
 ·exact .inr ⟨g,cap,cur,h1,by omega,h3⟩
theorem zep{g cap:Nat}(h:w.ownsRow B 143 10 (zF g W.length cap) W.length (qcv W)):∀(j:Nat) (u:Value),(qcv W)[j]?=some u->w.cell? (((zO g 0):Addr).add j)=some u:=by
 intro j u hu;have hl:=(yb.1 hu).1;rw[qlg]at hl;have e:((zO g 0):Addr).add j=(zO g j):=by simp[Addr.add];exact fun h=>h.symm
 rw[e,World.ownsRow.cellAt h j hl];exact hu
theorem zcp:(prog.info? 143).map (fun i=>(i.zero,i.size,i.bytes))=some (some (.agg #[zI 0,zI 0,zI 0,zI 0,zI 0,zI 0,zI 0,zI 0,zS,.bool false]),10,88):=by kernel_rfl
theorem zgr(W:List Vt):∀u∈qcv W,u.oneCell'=true:=by
 intro u hu;unfold qcv at hu;obtain⟨y,_,h⟩:=List.mem_flatMap.1 hu;simp[qcj]at h;rcases h with rfl|rfl|rfl|rfl|rfl|rfl|rfl|rfl|rfl|rfl<;>rfl
theorem q91{R:List Vt}{w5:World}{E:List Et}{x:Sx}{r:Nat}{p0 p5:Sp}{ve5:Value}{E5:List Et}{r5:Nat}{ok:Bool}{a:Act}(hB:K.B<=w.heap.size)(hm:Enm K w w5 W vW p0 ve5 E5)(ha:EInv K.bd R r5 E5 W)(Hb:SpOk r5 p5)(Ha:E.length<=E5.length)(hc:r<=r5)(Hc:r5<=r+4000000*(E5.length - E.length)+0)
  (hb:ok=true->∃y,Done K.bd n x y/\ParX y p5/\Cm y) (he:ok=false->∀y,¬Done K.bd n x y) (h8:a.tmps.getD 8 undef=zP (w.heap.size+1)) (h9:a.tmps.getD 9 undef=.bool ok) (hd:a.defers=[]) :
  bodyPost prog f58 (fun e w'=>EdO K R w E W n x r 0 e w') .ret a (set6 w5 (w.heap.size+1) (zI p5.mode) (zV p5.tag) (zV p5.attr) (zV p5.inside) (zV p5.run) (zI p5.far)):=by
 have ho:=hm.out hB (zI p5.mode) (zV p5.tag) (zV p5.attr) (zV p5.inside) (zV p5.run) (zI p5.far);refine qbz results58 (w.heap.size+1) _ underlying94 rfl (by kernel_rfl) h8 ⟨_,_,hm.res,rfl⟩ hd _ _ _ _ _ _ _ h9 ?_;exact⟨p5,ok,ve5,E5,r5,rfl,ho.1,ha,Hb,Ha,hc,Hc,hb,he,ho.2⟩
theorem qyh{w0 wr:World}{p':Sp}{ve':Value}{E':List Et}(h:Enm K w0 wr W vW p' ve' E')(m:Nat):Enm K w0 (wr.drewN m) W vW p' ve' E':=
 ⟨h.spot,h.res,⟨h.at_.tp.same rfl (fun _ _=>rfl) fun _ _ _ _ _=>rfl,qab h.at_.ends fun _ _=>rfl⟩,qab h.wi fun _ _=>rfl,qat h.ck.below m,h.ck.keep⟩
theorem zf5(K:Sk)(R:List Vt)(hK:SkOk K)(k:Nat)(HE:zhw K R k):EndC K R (k+1):=by
 intro w ve vW E W n x p r hT hE Hb hF hp Hi hn Hu hU Hn hB hk hr;obtain⟨Q,HF⟩:∃Q:Ending->World->Prop,Q=fun e w'=>EdO K R w E W n x r 0 e w':=⟨_,rfl⟩;rw[<-HF];have H0:Hid (Enm K w ((w.alloc (.cells (qan p) 94)).alloc (.cells #[zI 0,zS,zS,zS,zS,zI 0] 94)) W vW p ve E):=by
  have hb:=((xL w.heap.size w).alloc (yg _) (.cells (qan p) 94)).alloc (by simp) (.cells #[zI 0,zS,zS,zS,zS,zI 0] 94);exact⟨(xI _ _ (by simp)).trans (xF _ _),qap _ _ _ (by simp),hT.kept hb,qab hE fun q hq=>hb.block q (hE.lt q hq).2,Ck.of_below hb hB⟩
 have HI:=(show Hid (EInv K.bd R r E W)from Hb);have HX:=(show Hid (Cm x/\ParX x p/\SpOk r p/\InS K.bd R (n,x)/\(n,x)∉W/\(∀u∈W,Need K.bd u (n,x)))from⟨hF,hp,Hi,Hu,hU,Hn⟩);have HU:=zH (And.intro hk hr);have HKO:=zH hK;have Hm:=zH hB;have Hz:=(show Hid (n<K.N.length)from hn);have H6:E.length<=429926418000:=by have:=Hb.few;omega
 have ho:n<=100:=by have:=hK.six;omega
 have Hv:=zH ho;have hS:=fun W'=>qrw p W' (by have:=Hi.tag;omega) (by have:=Hi.attr;omega) (by have:=Hi.inside;omega) (by have:=Hi.run;omega);rw[qmb _ _ hF.fit.fit.ok hp]at hS;unfold qaz qan qwb qfa at hS;have hV:=zH hS;unfold qaz;unfold qan at H0 |-;clear hS hT hE Hb hF hp Hi hn Hu hU Hn hB hk hr hK ho;go_enter func58,ntmps58
 go_upto_region 1 with fail
 generalize World.alloc _ _=w1 at H0 |-;have q0:=qaa H0.out.spot 0 _ rfl;have q1:=qaa H0.out.spot 1 _ rfl;have q2:=qaa H0.out.spot 2 _ rfl;have q3:=qaa H0.out.spot 3 _ rfl;have q4:=qaa H0.out.spot 4 _ rfl;have q5:=qaa H0.out.spot 5 _ rfl;go_upto_region 2 with(go_at_call 41;refine(hV.out _).mono ?_;rintro e w5 ⟨rfl,hb⟩;have hG:=zH (H0.out.kept hb (yh Hm.out (by have:=H0.out.lt;omega)));clear hb;dsimp only)
 have hf:=zH (hG.out.kept (w':=w5.alloc (.cells #[zI n,zI x.view.mode,zI x.view.elem,zI x.view.attr,zI x.view.ends,zI x.view.esc,zI x.view.pct,zI x.view.link,zV x.view.name,.bool x.view.ref] 143)) (zB _) (yh Hm.out (by have:=hG.out.lt;omega)));have Hp:=xF w5 (.cells #[zI n,zI x.view.mode,zI x.view.elem,zI x.view.attr,zI x.view.ends,zI x.view.esc,zI x.view.pct,zI x.view.link,zV x.view.name,.bool x.view.ref] 143);generalize World.alloc w5 _=w6 at hf Hp |-;generalize w5.heap.size=VB at Hp |-;have Hj:=zH Hp;clear Hp q0 q1 q2 q3 q4 q5 hG H0 hV;go_wp2
 go_loopw [11] (fun v11 wr=>∃(i m:Nat),v11=zI i/\i<=E.length/\wr=w6.drewN m/\Hid (∀(j:Nat) (e:Et),j<i->E[j]?=some e->(e.n,e.x)≠(n,x))) (fun v11 _=>E.length - (intOf v11).toNat)
 case atStart=>exact⟨0,0,rfl,yH _,rfl,fun j e hj=>absurd hj (yZ _)⟩
 case round=>
  obtain⟨i,m,rfl,hi,rfl,hw⟩:=hrel;have v0:=qaa Hj.out 0 _ rfl;have v1:=qaa Hj.out 1 _ rfl;have v2:=qaa Hj.out 2 _ rfl;have v3:=qaa Hj.out 3 _ rfl;have v4:=qaa Hj.out 4 _ rfl;have v5:=qaa Hj.out 5 _ rfl;have v6:=qaa Hj.out 6 _ rfl;have v7:=qaa Hj.out 7 _ rfl;have v8:=qaa Hj.out 8 _ rfl;have v9:=qaa Hj.out 9 _ rfl;obtain⟨ao,cap,hv⟩:=qaq hf.out.at_.ends;have c2:w6.cell? (zO K.g 2)=some (.slice ao E.length cap):=(qaa hf.out.at_.tp.blk 2 _ rfl).trans (by rw[hv]);by_cases H7:i<E.length
  rotate_left
  ·have HG:¬(i:Int)<(E.length:Int):=by omega
   have h8:Hid ((n,x)∉E.map fun e=>(e.n,e.x)):=by
    show _∉_;intro h;obtain⟨e,he,h2⟩:=xq.1 h;obtain⟨j,hj,rfl⟩:=List.getElem_of_mem he;exact hw.out j _ (by omega) (yc hj) h2
   have Ht:=zH (qyh hf.out m);have Hf:=(show Hid ((w6.drewN m).heap[VB]?=_)from Hj.out);go_upto_region 8 with fail
   generalize w6.drewN m=w7 at Ht Hf |-;clear hw hf Hj v0 v1 v2 v3 v4 v5 v6 v7 v8 v9 c2;obtain⟨i0,hI,hW,HW,hY⟩:=info_parts zcp;have hWl:W.length<=429926418000:=by have:=HI.out.few;omega
   have HY:K.B<=w7.heap.size:=yh Hm.out (by have:=Ht.out.lt;omega);go_cut [12] (fun s12 wx=>Hid (zW w7 wx/\wx.ownsRow w7.heap.size 143 10 s12 W.length (qcv W)))
   case first=>
    rcases Ht.out.wi.2 with⟨hJ,HJ⟩|⟨gW,capW,curW,hJ,_,_,_⟩
    ·subst hJ
     go_wp2_with (at_builtin;refine wpList_append_own_none rfl _ _ 90 rfl w7.heap.size 143 i0 10 underlying90 hI _ 0 [] rfl (World.ownsRow_nil _ _ _ _) rfl ?_)
     go_meet
     have e:W=[]:=yC HJ;subst e;exact⟨xL _ _,World.ownsRow_nil _ _ _ _⟩
    ·subst hJ
     by_cases HJ:W.length=0
     ·have e:W=[]:=yC HJ
      subst e;go_wp2
      all_goals
       go_meet
       exact⟨xL _ _,World.ownsRow_nil _ _ _ _⟩
     have hg:=Ht.out.wi;have HK:=zH hg;clear hg;go_wp2_with (at_builtin;refine wpList_append_own _ rfl _ _ 90 rfl w7.heap.size 143 i0 (.agg #[zI 0,zI 0,zI 0,zI 0,zI 0,zI 0,zI 0,zI 0,zS,.bool false]) 10 88 underlying90 hI hW HW hY rfl (by decide) (zN) 0 [] rfl (World.ownsRow_nil _ _ _ _) (zO gW 0) W.length capW (qcv W) rfl (qlg W) (zep HK.out) (zgr W) (by unfold maxLen;omega) (by omega) (yg _) ?_)
     intro v' w8 Hc Ho _;have Hw:=(xL w7.heap.size w7).grown Ho (yg _) (fun k hk=>nomatch hk);have hx:w8.ownsRow w7.heap.size 143 10 v' W.length (qcv W):=by simpa using Hc
     clear Hc Ho;go_wp2
     go_meet
     exact⟨Hw,hx⟩
   case rest=>
   obtain⟨Hw,hZ⟩:=hcut.out;have Hx:=(Hw.block VB (zL Hf.out)).trans Hf.out;have hL:=zH hZ;have hy:=zH Hw;have Hk:=zH Hx;clear Hw hZ Hx hcut;have v0:=qaa Hk.out 0 _ rfl;have v1:=qaa Hk.out 1 _ rfl;have v2:=qaa Hk.out 2 _ rfl;have v3:=qaa Hk.out 3 _ rfl;have v4:=qaa Hk.out 4 _ rfl;have v5:=qaa Hk.out 5 _ rfl;have v6:=qaa Hk.out 6 _ rfl;have v7:=qaa Hk.out 7 _ rfl;have v8:=qaa Hk.out 8 _ rfl;have v9:=qaa Hk.out 9 _ rfl;have hW1:W.length+1<=429926418001:=by omega
   go_upto_region 10 with(at_builtin;refine wpList_append_own _ rfl _ _ 90 rfl w7.heap.size 143 i0 (.agg #[zI 0,zI 0,zI 0,zI 0,zI 0,zI 0,zI 0,zI 0,zS,.bool false]) 10 88 underlying90 hI hW HW hY rfl (by decide) _ _ _ rfl (World.ownsRow.alloc hL.out _) _ 1 1 [zI n,zI x.view.mode,zI x.view.elem,zI x.view.attr,zI x.view.ends,zI x.view.esc,zI x.view.pct,zI x.view.link,zV x.view.name,.bool x.view.ref] rfl rfl (qcn _ _ _) (by intro u hu;simp at hu;rcases hu with rfl|rfl|rfl|rfl|rfl|rfl|rfl|rfl|rfl|rfl<;>rfl) (by unfold maxLen;omega) (by omega) (by simp;have:=hy.out.size;omega) ?_;intro v' w9 Hc Ho _;have Hq:=zH Hc;have h0:=zH Ho;clear Hc Ho;dsimp only)
   have H1:w9.ownsRow w7.heap.size 143 10 v' (W++[(n,x)]).length (qcv (W++[(n,x)])):=by
    rw[qn6,yJ];exact Hq.out
   have HL:zW w7 w9:=(hy.out.trans ((xL _ _).alloc (by have:=hy.out.size;omega) _)).grown h0.out (by simp;have:=hy.out.size;omega) (fun k hk=>(World.ownsRow.lt hL.out k hk).1);have Ha:=zH (Ht.out.kept HL HY);clear Hq h0 hy Hk v0 v1 v2 v3 v4 v5 v6 v7 v8 v9 hL;have Hg:Hid (w9.heap[VB]?=_):=(HL.block VB (zL Hf.out)).trans Hf.out;have Hq:=zH (q5d H1 HY);have hM:EInv K.bd R r E (W++[(n,x)]):=by
    refine⟨HI.out.each,?_,fun u hu=>?_⟩
    ·rw[<-yq]
     refine List.nodup_append.2 ⟨HI.out.apart,List.nodup_cons.2 ⟨List.not_mem_nil,List.nodup_nil⟩,?_⟩;intro a ha b hb e;rw[yv.1 hb]at e;subst e;rcases yn.1 ha with q|q
     ·exact h8.out q
     ·exact HX.out.2.2.2.2.1 q
    ·rcases yn.1 hu with q | q
     ·exact HI.out.wins u q
     ·rw[yv.1 q];exact⟨HX.out.2.2.2.1,HX.out.1⟩
   have hN:=hM.few;have H2:=zH hM;clear H1 HL hM Hf Ht;rw[yJ]at hN;simp only[yK,yQ]at hN;have HN:=fun(W':World) (hm:Enm K w W' W vW p ve E) (hr:W'.ownsRow K.B 143 10 v' (W++[(n,x)]).length (qcv (W++[(n,x)])))=>HE W' ve v' E (W++[(n,x)]) n x p r hm.at_ hr H2.out HX.out.1 HX.out.2.1 HX.out.2.2.1 Hz.out HX.out.2.2.2.1 (fun u hu=>by
    rcases yn.1 hu with q|q
    ·exact .inr (HX.out.2.2.2.2.2 u q)
    ·exact .inl (yv.1 q)) (yh Hm.out (by have:=hm.lt;omega)) (by have:=HU.out.1;simp;omega) (by have:=HU.out.2;simp;omega)
   unfold qaz qan at HN;have hO:=zH HN;clear HN;obtain⟨bP,capP,hA,_,_⟩:=qai Ha.out.at_.tp.parts (by have:=Hz.out;omega);have hl:=Ha.out.at_.tp.parts;rw[hA]at hl;obtain⟨nm,h3⟩:∃y,K.N[n]?=some y:=⟨_,yc Hz.out⟩;have HA:=(qki K.pv K.N 1 n nm h3).2;rw[Nat.add_comm 1 n]at HA;have cP:=(hl.cellAt (n*2+1) (by rw[<-qir K.pv K.N 1];exact(yb.1 HA).1)).trans HA;have c1:w9.cell? (zO K.g 1)=some (zF bP K.N.length capP):=(qaa Ha.out.at_.tp.blk 1 _ rfl).trans (by rw[hA]);have hnN:(n:Int)<(K.N.length:Int):=by have:=Hz.out;omega
   have q0:=qaa Ha.out.spot 0 _ rfl;have q1:=qaa Ha.out.spot 1 _ rfl;have q2:=qaa Ha.out.spot 2 _ rfl;have q3:=qaa Ha.out.spot 3 _ rfl;have q4:=qaa Ha.out.spot 4 _ rfl;have q5:=qaa Ha.out.spot 5 _ rfl;have H3:bP<w9.heap.size:=(World.ownsRow.lt Ha.out.at_.tp.parts bP (by rw[hA];rfl)).2;have h4:=(zL Ha.out.at_.tp.blk);have He:=(zL Ha.out.spot);have q0':=fun o=>qaa ((xI w9 o He).trans Ha.out.spot) 0 _ rfl;have q1':=fun o=>qaa ((xI w9 o He).trans Ha.out.spot) 1 _ rfl;have q2':=fun o=>qaa ((xI w9 o He).trans Ha.out.spot) 2 _ rfl;have q3':=fun o=>qaa ((xI w9 o He).trans Ha.out.spot) 3 _ rfl;have q4':=fun o=>qaa ((xI w9 o He).trans Ha.out.spot) 4 _ rfl;have q5':=fun o=>qaa ((xI w9 o He).trans Ha.out.spot) 5 _ rfl;have cP':=fun o=>(((xL w9.heap.size w9).alloc (yg _) o).cell H3).trans cP;have c1':=fun o=>(((xL w9.heap.size w9).alloc (yg _) o).cell h4).trans c1;clear hl HA hA h3 H3 h4 He;have H8:=Hv.out;go_cut [13,14] (fun s13 s14 wx=>∃(ok:Bool) (TB:Nat),s13=zP TB/\s14=.bool ok/\Hid (∃p5 ve5 E5 r5,Enm K w wx W vW p ve5 E5/\wx.heap[TB]?=zK (qan p5) 94/\wx.heap[VB]?=zK #[zI n,zI x.view.mode,zI x.view.elem,zI x.view.attr,zI x.view.ends,zI x.view.esc,zI x.view.pct,zI x.view.link,zV x.view.name,.bool x.view.ref] 143/\EInv K.bd R r5 E5 (W++[(n,x)])/\SpOk r5 p5/\E.length<=E5.length/\r<=r5/\r5<=r+4000000*(E5.length - E.length)+4000000/\(ok=true->∃y,Done K.bd n x y/\ParX y p5/\Cm y)/\(ok=false->∀y,¬Done K.bd n x y)))
   case first=>
    have HB:=(show Hid (VB<w9.heap.size)from(zL Hg.out));have HO:=(show Hid (K.B<=w9.heap.size)from yh Hm.out (by have:=Ha.out.lt;omega));have h9:=(show Hid (w.heap.size+1<w9.heap.size)from Ha.out.lt);have hP:=(show Hid _ from((xL w9.heap.size w9).alloc (yg _) (.cells #[zI 0,zS,zS,zS,zS,zI 0] 94)).drew);go_wp2
    go_region_with (go_at_call 89;first
     |(refine xQ (hO.out (w9.alloc (.cells #[zI 0,zS,zS,zS,zS,zI 0] 94)).drew (Ha.out.kept hP.out HO.out) (qab Hq.out fun q hq=>hP.out.block q (World.ownsRow.lt Hq.out q hq).2)) ?_;rintro e w8 ⟨p5,ok,ve5,E5,r5,rfl,hd⟩;unfold qaz qan;have HZ:=(show Hid _ from(hd.ck.keep _ _ _ _ (xF w9 (.cells #[zI 0,zS,zS,zS,zS,zI 0] 94)) (by decide) (by decide)).trans (xF w9 (.cells #[zI 0,zS,zS,zS,zS,zI 0] 94)));have u0:=qaa HZ.out 0 _ rfl;have u1:=qaa HZ.out 1 _ rfl;have u2:=qaa HZ.out 2 _ rfl;have u3:=qaa HZ.out 3 _ rfl;have u4:=qaa HZ.out 4 _ rfl;have u5:=qaa HZ.out 5 _ rfl;have f0:=xH _ _ 0 _ _ HZ.out;have f1:=xH _ _ 1 _ _ HZ.out;have f2:=xH _ _ 2 _ _ HZ.out;have f3:=xH _ _ 3 _ _ HZ.out;have f4:=xH _ _ 4 _ _ HZ.out;have f5:=xH _ _ 5 _ _ HZ.out;have HD:=zH hd;clear hd;dsimp only)
     | (refine xQ (hO.out w9.drew Ha.out.drew (qab Hq.out fun _ _=>rfl)) ?_;rintro e w8 ⟨p5,ok,ve5,E5,r5,rfl,hd⟩;unfold qaz qan;have HD:=zH hd;clear hd;dsimp only))
    all_goals
     go_wp2
     go_meet
     first
     |exact⟨ok,_,rfl,rfl,p5,ve5,E5,r5,(((Ha.out.kept hP.out HO.out).ended HD.out.ck HD.out.at_).setFar Hm.out HZ.out h9.out _ _ _ _ _ _),qmz HZ.out _ _ _ _ _ _,(qc0 (Nat.ne_of_lt HB.out) _ _ _ _ _ _).trans ((HD.out.ck.keep _ _ _ _ ((xI w9 _ HB.out).trans Hg.out) (by decide) (by decide)).trans ((xI w9 _ HB.out).trans Hg.out)),HD.out.inv,HD.out.sp,HD.out.len,HD.out.up,HD.out.le,HD.out.yes,HD.out.no⟩
     |exact⟨ok,_,rfl,rfl,p5,ve5,E5,r5,((Ha.out.drew.ended HD.out.ck HD.out.at_).kept (zB _) (yh HO.out HD.out.ck.below.size)),xF _ _,(xI _ _ (yi HB.out HD.out.ck.below.size)).trans ((HD.out.ck.keep _ _ _ _ Hg.out (by decide) (by decide)).trans Hg.out),HD.out.inv,HD.out.sp,HD.out.len,HD.out.up,HD.out.le,HD.out.yes,HD.out.no⟩
   case rest=>
   obtain⟨ok,TB,rfl,rfl,HC⟩:=hcut;obtain⟨p5,ve5,E5,r5,hm,H4,Hp,Hb,Hi,Hr,hC,HP,Hl,Hy⟩:=HC.out;obtain⟨ao,cap,hv⟩:=qaq hm.at_.ends;subst hv;have H6:E5.length+W.length+1<=429926418000:=by have:=Hb.few;simp at this;omega
   have HM:=zH hm;have HT:=(show Hid (wc.heap[TB]?=zK (qan p5) 94)from H4);have HV:=(show Hid (wc.heap[VB]?=zK #[zI n,zI x.view.mode,zI x.view.elem,zI x.view.attr,zI x.view.ends,zI x.view.esc,zI x.view.pct,zI x.view.link,zV x.view.name,.bool x.view.ref] 143)from Hp);have HD:=(show Hid (EInv K.bd R r5 E5 (W++[(n,x)])/\SpOk r5 p5/\E.length<=E5.length/\r<=r5/\r5<=r+4000000*(E5.length - E.length)+4000000/\(ok=true->∃y,Done K.bd n x y/\ParX y p5/\Cm y)/\(ok=false->∀y,¬Done K.bd n x y))from⟨Hb,Hi,Hr,hC,HP,Hl,Hy⟩);clear HC hm H4 Hp Hb Hi Hr hC HP Hl Hy hO Hq Ha Hg H2 hN;have H9:=(show Hid (K.g<wc.heap.size)from(zL HM.out.at_.tp.blk));have c2:=qaa HM.out.at_.tp.blk 2 _ rfl;have c2':=fun o=>(qgz wc o (zO K.g 2) H9.out).trans (qaa HM.out.at_.tp.blk 2 _ rfl);obtain⟨v0,v1,v2,v3,v4,v5,v6,v7,v8,v9⟩:=qcq HV.out;obtain⟨u0,u1,u2,u3,u4,u5⟩:=qbu HT.out;obtain⟨i1,hi1,hy0,hy1,hy2⟩:=info_parts zcs;go_upto_region 11 with fail
   go_cut [] (fun wx=>∃ve6,Hid (Enm K w wx W vW p ve6 (E5++[⟨n,x,p5,ok⟩])/\wx.heap[TB]?=zK (qan p5) 94))
   case first=>
    go_region_law (refine qa6 rfl (.tmp 80) (.tmp 85) 99 rfl K.B 201 i1 (.agg #[zI 0,zI 0,zI 0,zI 0,zI 0,zI 0,zI 0,zI 0,zS,.bool false,zI 0,zS,zS,zS,zS,zI 0,.bool false]) 17 176 underlying99 hi1 hy0 hy1 hy2 rfl (by decide) (.slice ao E5.length cap) E5.length _ (by simp[Act.eval]) (World.ownsRow.alloc HM.out.at_.ends _) (zO _ 0) 1 1 (qe6 ⟨n,x,p5,ok⟩) (by simp[Act.eval]) rfl (qcn _ _ _) (by intro u hu;simp[qe6,qcj,qan]at hu;rcases hu with rfl|rfl|rfl|rfl|rfl|rfl|rfl|rfl|rfl|rfl|rfl|rfl|rfl|rfl|rfl|rfl|rfl<;>rfl) (by unfold maxLen;omega) (by omega) (by simp;have:=HM.out.lt;have:=Hm.out;omega) ?_;intro v' w6 Hc Ho hQ;obtain⟨g',cap',rfl,_,_⟩:=qai Hc (by omega);obtain⟨q4,r4⟩:=HM.out.at_.ahead (zB _).drew Ho)
    all_goals
     go_wp2
     go_meet
     have hX:=HM.out.more Hm.out (zB _).drew ⟨n,x,p5,ok⟩ Hc Ho hQ;exact⟨_,hX.1,(hX.2 _ _ _ HT.out).trans HT.out⟩
   case rest=>
   obtain⟨ve6,HZ⟩:=hcut;clear c2 c2' v0 v1 v2 v3 v4 v5 v6 v7 v8 v9 u0 u1 u2 u3 u4 u5 HM HT HV;obtain⟨u0,u1,u2,u3,u4,u5⟩:=qbu HZ.out.2;obtain⟨r0,r1,r2,r3,r4,r5'⟩:=qbu HZ.out.1.res;obtain⟨f0,f1,f2,f3,f4,f5⟩:=qgx HZ.out.1.res;go_wp2
   try rw[HF]
   obtain⟨Hb,Hi,Hr,hC,HP,Hl,Hy⟩:=HD.out;refine q91 (ok:=ok) (p5:=p5) (r5:=r5) Hm.out HZ.out.1 (zdb Hb ⟨HX.out.1,HX.out.2.2.2.1,Hi,Hl,Hy⟩ rfl) Hi (by rw[yJ];omega) hC (by rw[yJ];simp;omega) Hl Hy ?_ ?_ ?_
   all_goals rfl
  obtain⟨g7,cap7,h7,_,_⟩:=qai hf.out.at_.ends (by omega);have HV7:=(show Hid (ve.ownBlock=some g7) by rw[h7];rfl);rw[hv]at h7;obtain⟨rfl,rfl⟩:ao=some (zO g7 0)/\cap=cap7:=by injection h7 with a _ c;exact⟨a,c⟩
  clear h7;obtain⟨e,he⟩:∃e,E[i]?=some e:=⟨_,yc H7⟩;have hg:=hf.out.at_.ends;rw[hv]at hg;have hc:=fun j v (hv:(qe6 e)[j]?=some v)=>(hg.cellAt (i*17+j) (by have:=qnw _ i e he j v hv;have:=(yb.1 this).1;rw[q1s]at this;exact this)).trans (qnw _ i e he j v hv);have c20:=hc 0 _ rfl;have c21:=hc 1 _ rfl;have c22:=hc 2 _ rfl;have c23:=hc 3 _ rfl;have c24:=hc 4 _ rfl;have c25:=hc 5 _ rfl;have c26:=hc 6 _ rfl;have c27:=hc 7 _ rfl;have c28:=hc 8 _ rfl;have c29:=hc 9 _ rfl;have HC:=zH hc;simp only[Nat.add_zero]at c20;have HG:(i:Int)<(E.length:Int):=by omega
  have HEe:=zH he;have hs:=zH (HI.out.each e (yl he));have h5:e.n<=100:=by
   obtain⟨_,_,_,_,_,h6,_⟩:=hs.out.ins;have:e.n<6:=h6;omega
  have hD:=zH h5;clear hc hg he h5 hv;by_cases hq:(e.n,e.x)=(n,x)
  rotate_left
  ·have hb:(false=true↔(e.n=n/\e.x.view=x.view)):=⟨(fun h=>nomatch h),fun h=>absurd (Prod.ext h.1 (zah hs.out.cm HX.out.1 h.2)) hq⟩
   have HQ:=fun w'=>zdy w' (qhr hs.out.cm) (qhr HX.out.1) hD.out Hv.out hb;have hR:=fun w'=>qsd w' e.n n e.x.view x.view;have hz:=fun w'=>qse w' (qhr hs.out.cm) (qhr HX.out.1) hD.out Hv.out hb;unfold qfv at HQ hR hz;have HR:Hid (∀(j:Nat) (e':Et),j<i+1->E[j]?=some e'->(e'.n,e'.x)≠(n,x)):=fun j e' hj HS=>by
    rcases Nat.lt_or_ge j i with h|h
    ·exact hw.out j e' h HS
    ·obtain rfl:j=i:=by omega
     rw[HEe.out]at HS;obtain rfl:=yk HS;exact hq
   clear hq hb hw;go_wp2
   go_region
   all_goals
    go_wp2
    refine⟨⟨i+1,m+1,by go_num,by omega,rfl,HR⟩,?_⟩;simp[intOf];omega
  have HQE:=zH hq;have hb:(true=true↔(e.n=n/\e.x.view=x.view)):=⟨fun _=>by injection hq with h1 h2;exact⟨h1,by rw[h2]⟩,fun _=>rfl⟩;have HQ:=fun w'=>zdy w' (qhr hs.out.cm) (qhr HX.out.1) hD.out Hv.out hb;have hR:=fun w'=>qsd w' e.n n e.x.view x.view;have hz:=fun w'=>qse w' (qhr hs.out.cm) (qhr HX.out.1) hD.out Hv.out hb;unfold qfv at HQ hR hz;clear hq hb hw;have c30:=HC.out 10 _ rfl;have c31:=HC.out 11 _ rfl;have c32:=HC.out 12 _ rfl;have c33:=HC.out 13 _ rfl;have c34:=HC.out 14 _ rfl;have c35:=HC.out 15 _ rfl;have c36:=HC.out 16 _ rfl;have H5:∃cur,w6.heap[g7]?=zK cur 201:=qac hf.out.at_.ends g7 HV7.out;have hne1:¬K.g=w.heap.size+1:=qae hf.out.at_.tp.blk hf.out.res (by decide);have hne2:¬g7=w.heap.size+1:=by obtain⟨cur,hc⟩:=H5;exact qae hc hf.out.res (by decide)
  clear H5;have Hs:=hf;have rs0:=qaa Hs.out.res 0 _ rfl;have rs1:=qaa Hs.out.res 1 _ rfl;have rs2:=qaa Hs.out.res 2 _ rfl;have rs3:=qaa Hs.out.res 3 _ rfl;have rs4:=qaa Hs.out.res 4 _ rfl;have rs5:=qaa Hs.out.res 5 _ rfl;have z0:=fun i=>xH _ _ i _ _ Hs.out.res;go_wp2
  go_region
  all_goals
   go_wp2
   go_region
   all_goals
    go_wp2
    have ht:=hs.out;have hz:=HQE.out;injection hz with h1 h2;rw[HF];refine q91 (w5:=w6.drewN _) (ok:=e.ok) (p5:=e.p) Hm.out (qyh hf.out _) HI.out ht.sp (yg _) (yg _) (by omega) (fun h=>?_) (fun h=>?_) ?_ ?_ ?_
    ·obtain⟨y,a,b⟩:=ht.yes h
     rw[h1,h2]at a;exact⟨y,a,b⟩
    ·have:=ht.no h
     rw[h1,h2]at this;exact this
    all_goals rfl
end Go.Proofs.YtfkhljmiehdgmaaGreatDoor
