/-
  Steps of the proof.
-/
import Derived.Test.YtfkhljmiehdgmaaGreatDoorCuBS
set_option maxRecDepth 100000
set_option maxHeartbeats 40000000
namespace Go.Proofs.YtfkhljmiehdgmaaGreatDoor
open Go.RowKit Go.Proofs.Tryz Pl
variable{w:World}{B n:Nat}{W:List Vt}{K:Sk}{vW:Value}
theorem q5d{B2 sz:Nat}{e:TypeId}{v:Value}{xs:List Value}(h:w.ownsRow B2 e sz v n xs)(y:B<=B2):w.ownsRow B e sz v n xs:=by
 refine⟨h.1,?_⟩;rcases h.2 with q|⟨g,cap,cur,z,D,I⟩
 ·exact .inl q
 ·exact .inr ⟨g,cap,cur,z,by omega,I⟩
theorem zep{g cap:Nat}(h:w.ownsRow B 143 10 (zF g W.length cap) W.length (qcv W)):∀(j:Nat) (u:Value),(qcv W)[j]?=some u->w.cell? (((zO g 0):Addr).add j)=some u:=by
 intro j u y;have z:=(yb.1 y).1;rw[qlg]at z;have e:((zO g 0):Addr).add j=(zO g j):=by simp[Addr.add];exact fun h=>h.symm
 rw[e,World.ownsRow.cellAt h j z];exact y
theorem zcp:(prog.info? 143).map (fun i=>(i.zero,i.size,i.bytes))=some (some (.agg #[zI 0,zI 0,zI 0,zI 0,zI 0,zI 0,zI 0,zI 0,zS,.bool false]),10,88):=by kernel_rfl
theorem zgr(W:List Vt):∀u∈qcv W,u.oneCell'=true:=by
 intro u z;unfold qcv at z;obtain⟨y,_,h⟩:=List.mem_flatMap.1 z;simp[qcj]at h;rcases h with rfl|rfl|rfl|rfl|rfl|rfl|rfl|rfl|rfl|rfl<;>rfl
theorem q91{R:List Vt}{w5:World}{E:List Et}{x:Sx}{r:Nat}{p0 p5:Sp}{ve5:Value}{E5:List Et}{r5:Nat}{ok:Bool}{a:Act}(V:K.B<=w.heap.size)(X:Enm K w w5 W vW p0 ve5 E5)(z:EInv K.bd R r5 E5 W)(J:SpOk r5 p5)(D:E.length<=E5.length)(O:r<=r5)(T:r5<=r+4000000*(E5.length - E.length)+0)
  (I:ok=true->∃y,Done K.bd n x y/\ParX y p5/\Cm y) (U:ok=false->∀y,¬Done K.bd n x y) (Y:a.tmps.getD 8 undef=zP (w.heap.size+1)) (Z:a.tmps.getD 9 undef=.bool ok) (hd:a.defers=[]) :
  bodyPost prog f58 (fun e w'=>EdO K R w E W n x r 0 e w') .ret a (set6 w5 (w.heap.size+1) (zI p5.mode) (.string ⟨p5.tag.toArray⟩) (.string ⟨p5.attr.toArray⟩) (.string ⟨p5.inside.toArray⟩) (.string ⟨p5.run.toArray⟩) (zI p5.far)):=by
 have ho:=X.out V (zI p5.mode) (.string ⟨p5.tag.toArray⟩) (.string ⟨p5.attr.toArray⟩) (.string ⟨p5.inside.toArray⟩) (.string ⟨p5.run.toArray⟩) (zI p5.far);refine qbz results58 (w.heap.size+1) _ underlying94 rfl (by kernel_rfl) Y ⟨_,_,X.res,rfl⟩ hd _ _ _ _ _ _ _ Z ?_;exact⟨p5,ok,ve5,E5,r5,rfl,ho.1,z,J,D,O,T,I,U,ho.2⟩
theorem qyh{w0 wr:World}{p':Sp}{ve':Value}{E':List Et}(h:Enm K w0 wr W vW p' ve' E')(m:Nat):Enm K w0 (wr.drewN m) W vW p' ve' E':=
 ⟨h.spot,h.res,⟨h.at_.tp.same rfl (fun _ _=>rfl) fun _ _ _ _ _=>rfl,qab h.at_.ends fun _ _=>rfl⟩,qab h.wi fun _ _=>rfl,qat h.ck.below m,h.ck.keep⟩
theorem zf5(K:Sk)(R:List Vt)(hK:SkOk K)(k:Nat)(HE:zhw K R k):EndC K R (k+1):=by
 intro w ve vW E W n x p r hN hx D Hx hg X hn Hn HN He hB hk hr;obtain⟨Q,hy⟩:∃Q:Ending->World->Prop,Q=fun e w'=>EdO K R w E W n x r 0 e w':=⟨_,rfl⟩;rw[<-hy];have H0:Hid (Enm K w ((w.alloc (.cells (qan p) 94)).alloc (.cells #[zI 0,zS,zS,zS,zS,zI 0] 94)) W vW p ve E):=by
  have hb:=((xL w.heap.size w).alloc (yg _) (.cells (qan p) 94)).alloc (by simp) (.cells #[zI 0,zS,zS,zS,zS,zI 0] 94);exact⟨(xI _ _ (by simp)).trans (xF _ _),qap _ _ _ (by simp),hN.kept hb,qab hx fun q hq=>hb.block q (hx.lt q hq).2,Ck.of_below hb hB⟩
 have HI:=(show Hid (EInv K.bd R r E W)from D);have HX:=(show Hid (Cm x/\ParX x p/\SpOk r p/\InS K.bd R (n,x)/\(n,x)∉W/\(∀u∈W,Need K.bd u (n,x)))from⟨Hx,hg,X,Hn,HN,He⟩);have hO:=zH (And.intro hk hr);have h9:=zH hK;have Hc:=zH hB;have ht:=(show Hid (n<K.N.length)from hn);have HY:E.length<=429926418000:=by have:=D.few;omega
 have hf:n<=100:=by have:=hK.six;omega
 have ho:=zH hf;have hS:=fun W'=>qrw p W' (by have:=X.tag;omega) (by have:=X.attr;omega) (by have:=X.inside;omega) (by have:=X.run;omega);rw[qmb _ _ Hx.fit.fit.ok hg]at hS;unfold qaz qan qwb qfa at hS;have HO:=zH hS;unfold qaz;unfold qan at H0 |-;clear hS hN hx D Hx hg X hn Hn HN He hB hk hr hK hf;go_enter func58,ntmps58
 go_upto_region 1 with fail
 generalize World.alloc _ _=w1 at H0 |-;have q0:=qaa H0.out.spot 0 _ rfl;have q1:=qaa H0.out.spot 1 _ rfl;have q2:=qaa H0.out.spot 2 _ rfl;have q3:=qaa H0.out.spot 3 _ rfl;have q4:=qaa H0.out.spot 4 _ rfl;have q5:=qaa H0.out.spot 5 _ rfl;go_upto_region 2 with(go_at_call 41;refine(HO.out _).mono ?_;rintro e w5 ⟨rfl,hb⟩;have Hy:=zH (H0.out.kept hb (yh Hc.out (by have:=H0.out.lt;omega)));clear hb;dsimp only)
 have O:=zH (Hy.out.kept (w':=w5.alloc (.cells #[zI n,zI x.view.mode,zI x.view.elem,zI x.view.attr,zI x.view.ends,zI x.view.esc,zI x.view.pct,zI x.view.link,.string ⟨x.view.name.toArray⟩,.bool x.view.ref] 143)) (zB _) (yh Hc.out (by have:=Hy.out.lt;omega)));have Hg:=xF w5 (.cells #[zI n,zI x.view.mode,zI x.view.elem,zI x.view.attr,zI x.view.ends,zI x.view.esc,zI x.view.pct,zI x.view.link,.string ⟨x.view.name.toArray⟩,.bool x.view.ref] 143);generalize World.alloc w5 _=w6 at O Hg |-;generalize w5.heap.size=VB at Hg |-;have Y:=zH Hg;clear Hg q0 q1 q2 q3 q4 q5 Hy H0 HO;go_wp2
 go_loopw [11] (fun v11 wr=>∃(i m:Nat),v11=zI i/\i<=E.length/\wr=w6.drewN m/\Hid (∀(j:Nat) (e:Et),j<i->E[j]?=some e->(e.n,e.x)≠(n,x))) (fun v11 _=>E.length - (intOf v11).toNat)
 case atStart=>exact⟨0,0,rfl,yH _,rfl,fun j e hj=>absurd hj (yZ _)⟩
 case round=>
  obtain⟨i,m,rfl,hi,rfl,Ho⟩:=hrel;have v0:=qaa Y.out 0 _ rfl;have v1:=qaa Y.out 1 _ rfl;have v2:=qaa Y.out 2 _ rfl;have v3:=qaa Y.out 3 _ rfl;have v4:=qaa Y.out 4 _ rfl;have v5:=qaa Y.out 5 _ rfl;have v6:=qaa Y.out 6 _ rfl;have v7:=qaa Y.out 7 _ rfl;have v8:=qaa Y.out 8 _ rfl;have v9:=qaa Y.out 9 _ rfl;obtain⟨ao,cap,hv⟩:=qaq O.out.at_.ends;have c2:w6.cell? (zO K.g 2)=some (.slice ao E.length cap):=(qaa O.out.at_.tp.blk 2 _ rfl).trans (by rw[hv]);by_cases hZ:i<E.length
  rotate_left
  ·have hz:¬(i:Int)<(E.length:Int):=by omega
   have h0:Hid ((n,x)∉E.map fun e=>(e.n,e.x)):=by
    show _∉_;intro h;obtain⟨e,he,h2⟩:=xq.1 h;obtain⟨j,hj,rfl⟩:=List.getElem_of_mem he;exact Ho.out j _ (by omega) (yc hj) h2
   have Hm:=zH (qyh O.out m);have T:=(show Hid ((w6.drewN m).heap[VB]?=_)from Y.out);go_upto_region 8 with fail
   generalize w6.drewN m=w7 at Hm T |-;clear Ho O Y v0 v1 v2 v3 v4 v5 v6 v7 v8 v9 c2;obtain⟨i0,Hz,hP,HP,hQ⟩:=info_parts zcp;have H9:W.length<=429926418000:=by have:=HI.out.few;omega
   have HQ:K.B<=w7.heap.size:=yh Hc.out (by have:=Hm.out.lt;omega);go_cut [12] (fun s12 wx=>Hid (zW w7 wx/\wx.ownsRow w7.heap.size 143 10 s12 W.length (qcv W)))
   case first=>
    rcases Hm.out.wi.2 with⟨hA,HA⟩|⟨gW,capW,curW,hA,_,_,_⟩
    ·subst hA
     go_wp2_with (at_builtin;refine wpList_append_own_none rfl _ _ 90 rfl w7.heap.size 143 i0 10 underlying90 Hz _ 0 [] rfl (World.ownsRow_nil _ _ _ _) rfl ?_)
     go_meet
     have e:W=[]:=yC HA;subst e;exact⟨xL _ _,World.ownsRow_nil _ _ _ _⟩
    ·subst hA
     by_cases HA:W.length=0
     ·have e:W=[]:=yC HA
      subst e;go_wp2
      all_goals
       go_meet
       exact⟨xL _ _,World.ownsRow_nil _ _ _ _⟩
     have U:=Hm.out.wi;have HB:=zH U;clear U;go_wp2_with (at_builtin;refine wpList_append_own _ rfl _ _ 90 rfl w7.heap.size 143 i0 (.agg #[zI 0,zI 0,zI 0,zI 0,zI 0,zI 0,zI 0,zI 0,zS,.bool false]) 10 88 underlying90 Hz hP HP hQ rfl (by decide) (zN) 0 [] rfl (World.ownsRow_nil _ _ _ _) (zO gW 0) W.length capW (qcv W) rfl (qlg W) (zep HB.out) (zgr W) (by unfold maxLen;omega) (by omega) (yg _) ?_)
     intro v' w8 I Hf _;have hp:=(xL w7.heap.size w7).grown Hf (yg _) (fun k hk=>nomatch hk);have Hp:w8.ownsRow w7.heap.size 143 10 v' W.length (qcv W):=by simpa using I
     clear I Hf;go_wp2
     go_meet
     exact⟨hp,Hp⟩
   case rest=>
   obtain⟨hp,hR⟩:=hcut.out;have Hq:=(hp.block VB (zL T.out)).trans T.out;have hC:=zH hR;have Hr:=zH hp;have Z:=zH Hq;clear hp hR Hq hcut;have v0:=qaa Z.out 0 _ rfl;have v1:=qaa Z.out 1 _ rfl;have v2:=qaa Z.out 2 _ rfl;have v3:=qaa Z.out 3 _ rfl;have v4:=qaa Z.out 4 _ rfl;have v5:=qaa Z.out 5 _ rfl;have v6:=qaa Z.out 6 _ rfl;have v7:=qaa Z.out 7 _ rfl;have v8:=qaa Z.out 8 _ rfl;have v9:=qaa Z.out 9 _ rfl;have hW1:W.length+1<=429926418001:=by omega
   go_upto_region 10 with(at_builtin;refine wpList_append_own _ rfl _ _ 90 rfl w7.heap.size 143 i0 (.agg #[zI 0,zI 0,zI 0,zI 0,zI 0,zI 0,zI 0,zI 0,zS,.bool false]) 10 88 underlying90 Hz hP HP hQ rfl (by decide) _ _ _ rfl (World.ownsRow.alloc hC.out _) _ 1 1 [zI n,zI x.view.mode,zI x.view.elem,zI x.view.attr,zI x.view.ends,zI x.view.esc,zI x.view.pct,zI x.view.link,.string ⟨x.view.name.toArray⟩,.bool x.view.ref] rfl rfl (qcn _ _ _) (by intro u hu;simp at hu;rcases hu with rfl|rfl|rfl|rfl|rfl|rfl|rfl|rfl|rfl|rfl<;>rfl) (by unfold maxLen;omega) (by omega) (by simp;have:=Hr.out.size;omega) ?_;intro v' w9 I Hf _;have Hi:=zH I;have HR:=zH Hf;clear I Hf;dsimp only)
   have HS:w9.ownsRow w7.heap.size 143 10 v' (W++[(n,x)]).length (qcv (W++[(n,x)])):=by
    rw[qn6,yJ];exact Hi.out
   have hD:zW w7 w9:=(Hr.out.trans ((xL _ _).alloc (by have:=Hr.out.size;omega) _)).grown HR.out (by simp;have:=Hr.out.size;omega) (fun k hk=>(World.ownsRow.lt hC.out k hk).1);have z:=zH (Hm.out.kept hD HQ);clear Hi HR Hr Z v0 v1 v2 v3 v4 v5 v6 v7 v8 v9 hC;have V:Hid (w9.heap[VB]?=_):=(hD.block VB (zL T.out)).trans T.out;have Hi:=zH (q5d HS HQ);have hE:EInv K.bd R r E (W++[(n,x)]):=by
    refine⟨HI.out.each,?_,fun u hu=>?_⟩
    ·rw[<-yq]
     refine List.nodup_append.2 ⟨HI.out.apart,List.nodup_cons.2 ⟨List.not_mem_nil,List.nodup_nil⟩,?_⟩;intro a ha b hb e;rw[yv.1 hb]at e;subst e;rcases yn.1 ha with q|q
     ·exact h0.out q
     ·exact HX.out.2.2.2.2.1 q
    ·rcases yn.1 hu with q | q
     ·exact HI.out.wins u q
     ·rw[yv.1 q];exact⟨HX.out.2.2.2.1,HX.out.1⟩
   have hF:=hE.few;have hT:=zH hE;clear HS hD hE T Hm;rw[yJ]at hF;simp only[yK,yQ]at hF;have HF:=fun(W':World) (hm:Enm K w W' W vW p ve E) (hr:W'.ownsRow K.B 143 10 v' (W++[(n,x)]).length (qcv (W++[(n,x)])))=>HE W' ve v' E (W++[(n,x)]) n x p r hm.at_ hr hT.out HX.out.1 HX.out.2.1 HX.out.2.2.1 ht.out HX.out.2.2.2.1 (fun u hu=>by
    rcases yn.1 hu with q|q
    ·exact .inr (HX.out.2.2.2.2.2 u q)
    ·exact .inl (yv.1 q)) (yh Hc.out (by have:=hm.lt;omega)) (by have:=hO.out.1;simp;omega) (by have:=hO.out.2;simp;omega)
   unfold qaz qan at HF;have hG:=zH HF;clear HF;obtain⟨bP,capP,Ht,_,_⟩:=qai z.out.at_.tp.parts (by have:=ht.out;omega);have Ha:=z.out.at_.tp.parts;rw[Ht]at Ha;obtain⟨nm,hU⟩:∃y,K.N[n]?=some y:=⟨_,yc ht.out⟩;have Hu:=(qki K.pv K.N 1 n nm hU).2;rw[Nat.add_comm 1 n]at Hu;have cP:=(Ha.cellAt (n*2+1) (by rw[<-qir K.pv K.N 1];exact(yb.1 Hu).1)).trans Hu;have c1:w9.cell? (zO K.g 1)=some (zF bP K.N.length capP):=(qaa z.out.at_.tp.blk 1 _ rfl).trans (by rw[Ht]);have hnN:(n:Int)<(K.N.length:Int):=by have:=ht.out;omega
   have q0:=qaa z.out.spot 0 _ rfl;have q1:=qaa z.out.spot 1 _ rfl;have q2:=qaa z.out.spot 2 _ rfl;have q3:=qaa z.out.spot 3 _ rfl;have q4:=qaa z.out.spot 4 _ rfl;have q5:=qaa z.out.spot 5 _ rfl;have HU:bP<w9.heap.size:=(World.ownsRow.lt z.out.at_.tp.parts bP (by rw[Ht];rfl)).2;have hV:=(zL z.out.at_.tp.blk);have J:=(zL z.out.spot);have q0':=fun o=>qaa ((xI w9 o J).trans z.out.spot) 0 _ rfl;have q1':=fun o=>qaa ((xI w9 o J).trans z.out.spot) 1 _ rfl;have q2':=fun o=>qaa ((xI w9 o J).trans z.out.spot) 2 _ rfl;have q3':=fun o=>qaa ((xI w9 o J).trans z.out.spot) 3 _ rfl;have q4':=fun o=>qaa ((xI w9 o J).trans z.out.spot) 4 _ rfl;have q5':=fun o=>qaa ((xI w9 o J).trans z.out.spot) 5 _ rfl;have cP':=fun o=>(((xL w9.heap.size w9).alloc (yg _) o).cell HU).trans cP;have c1':=fun o=>(((xL w9.heap.size w9).alloc (yg _) o).cell hV).trans c1;clear Ha Hu Ht hU HU hV J;have H1:=ho.out;go_cut [13,14] (fun s13 s14 wx=>∃(ok:Bool) (TB:Nat),s13=zP TB/\s14=.bool ok/\Hid (∃p5 ve5 E5 r5,Enm K w wx W vW p ve5 E5/\wx.heap[TB]?=zK (qan p5) 94/\wx.heap[VB]?=zK #[zI n,zI x.view.mode,zI x.view.elem,zI x.view.attr,zI x.view.ends,zI x.view.esc,zI x.view.pct,zI x.view.link,.string ⟨x.view.name.toArray⟩,.bool x.view.ref] 143/\EInv K.bd R r5 E5 (W++[(n,x)])/\SpOk r5 p5/\E.length<=E5.length/\r<=r5/\r5<=r+4000000*(E5.length - E.length)+4000000/\(ok=true->∃y,Done K.bd n x y/\ParX y p5/\Cm y)/\(ok=false->∀y,¬Done K.bd n x y)))
   case first=>
    have Hv:=(show Hid (VB<w9.heap.size)from(zL V.out));have HG:=(show Hid (K.B<=w9.heap.size)from yh Hc.out (by have:=z.out.lt;omega));have H2:=(show Hid (w.heap.size+1<w9.heap.size)from z.out.lt);have hI:=(show Hid _ from((xL w9.heap.size w9).alloc (yg _) (.cells #[zI 0,zS,zS,zS,zS,zI 0] 94)).drew);go_wp2
    go_region_with (go_at_call 89;first
     |(refine xQ (hG.out (w9.alloc (.cells #[zI 0,zS,zS,zS,zS,zI 0] 94)).drew (z.out.kept hI.out HG.out) (qab Hi.out fun q hq=>hI.out.block q (World.ownsRow.lt Hi.out q hq).2)) ?_;rintro e w8 ⟨p5,ok,ve5,E5,r5,rfl,hd⟩;unfold qaz qan;have HZ:=(show Hid _ from(hd.ck.keep _ _ _ _ (xF w9 (.cells #[zI 0,zS,zS,zS,zS,zI 0] 94)) (by decide) (by decide)).trans (xF w9 (.cells #[zI 0,zS,zS,zS,zS,zI 0] 94)));have u0:=qaa HZ.out 0 _ rfl;have u1:=qaa HZ.out 1 _ rfl;have u2:=qaa HZ.out 2 _ rfl;have u3:=qaa HZ.out 3 _ rfl;have u4:=qaa HZ.out 4 _ rfl;have u5:=qaa HZ.out 5 _ rfl;have f0:=xH _ _ 0 _ _ HZ.out;have f1:=xH _ _ 1 _ _ HZ.out;have f2:=xH _ _ 2 _ _ HZ.out;have f3:=xH _ _ 3 _ _ HZ.out;have f4:=xH _ _ 4 _ _ HZ.out;have f5:=xH _ _ 5 _ _ HZ.out;have HD:=zH hd;clear hd;dsimp only)
     | (refine xQ (hG.out w9.drew z.out.drew (qab Hi.out fun _ _=>rfl)) ?_;rintro e w8 ⟨p5,ok,ve5,E5,r5,rfl,hd⟩;unfold qaz qan;have HD:=zH hd;clear hd;dsimp only))
    all_goals
     go_wp2
     go_meet
     first
     |exact⟨ok,_,rfl,rfl,p5,ve5,E5,r5,(((z.out.kept hI.out HG.out).ended HD.out.ck HD.out.at_).setFar Hc.out HZ.out H2.out _ _ _ _ _ _),qmz HZ.out _ _ _ _ _ _,(qc0 (Nat.ne_of_lt Hv.out) _ _ _ _ _ _).trans ((HD.out.ck.keep _ _ _ _ ((xI w9 _ Hv.out).trans V.out) (by decide) (by decide)).trans ((xI w9 _ Hv.out).trans V.out)),HD.out.inv,HD.out.sp,HD.out.len,HD.out.up,HD.out.le,HD.out.yes,HD.out.no⟩
     |exact⟨ok,_,rfl,rfl,p5,ve5,E5,r5,((z.out.drew.ended HD.out.ck HD.out.at_).kept (zB _) (yh HG.out HD.out.ck.below.size)),xF _ _,(xI _ _ (yi Hv.out HD.out.ck.below.size)).trans ((HD.out.ck.keep _ _ _ _ V.out (by decide) (by decide)).trans V.out),HD.out.inv,HD.out.sp,HD.out.len,HD.out.up,HD.out.le,HD.out.yes,HD.out.no⟩
   case rest=>
   obtain⟨ok,TB,rfl,rfl,HC⟩:=hcut;obtain⟨p5,ve5,E5,r5,hm,hW,Hg,D,X,Hj,hw,hJ,Hb,hs⟩:=HC.out;obtain⟨ao,cap,hv⟩:=qaq hm.at_.ends;subst hv;have HY:E5.length+W.length+1<=429926418000:=by have:=D.few;simp at this;omega
   have HM:=zH hm;have HT:=(show Hid (wc.heap[TB]?=zK (qan p5) 94)from hW);have HV:=(show Hid (wc.heap[VB]?=zK #[zI n,zI x.view.mode,zI x.view.elem,zI x.view.attr,zI x.view.ends,zI x.view.esc,zI x.view.pct,zI x.view.link,.string ⟨x.view.name.toArray⟩,.bool x.view.ref] 143)from Hg);have HD:=(show Hid (EInv K.bd R r5 E5 (W++[(n,x)])/\SpOk r5 p5/\E.length<=E5.length/\r<=r5/\r5<=r+4000000*(E5.length - E.length)+4000000/\(ok=true->∃y,Done K.bd n x y/\ParX y p5/\Cm y)/\(ok=false->∀y,¬Done K.bd n x y))from⟨D,X,Hj,hw,hJ,Hb,hs⟩);clear HC hm hW Hg D X Hj hw hJ Hb hs hG Hi z V hT hF;have h3:=(show Hid (K.g<wc.heap.size)from(zL HM.out.at_.tp.blk));have c2:=qaa HM.out.at_.tp.blk 2 _ rfl;have c2':=fun o=>(qgz wc o (zO K.g 2) h3.out).trans (qaa HM.out.at_.tp.blk 2 _ rfl);obtain⟨v0,v1,v2,v3,v4,v5,v6,v7,v8,v9⟩:=qcq HV.out;obtain⟨u0,u1,u2,u3,u4,u5⟩:=qbu HT.out;obtain⟨i1,H3,h4,H4,h5⟩:=info_parts zcs;go_upto_region 11 with fail
   go_cut [] (fun wx=>∃ve6,Hid (Enm K w wx W vW p ve6 (E5++[⟨n,x,p5,ok⟩])/\wx.heap[TB]?=zK (qan p5) 94))
   case first=>
    go_region_law (refine qa6 rfl (.tmp 80) (.tmp 85) 99 rfl K.B 201 i1 (.agg #[zI 0,zI 0,zI 0,zI 0,zI 0,zI 0,zI 0,zI 0,zS,.bool false,zI 0,zS,zS,zS,zS,zI 0,.bool false]) 17 176 underlying99 H3 h4 H4 h5 rfl (by decide) (.slice ao E5.length cap) E5.length _ (by simp[Act.eval]) (World.ownsRow.alloc HM.out.at_.ends _) (zO _ 0) 1 1 (qe6 ⟨n,x,p5,ok⟩) (by simp[Act.eval]) rfl (qcn _ _ _) (by intro u hu;simp[qe6,qcj,qan]at hu;rcases hu with rfl|rfl|rfl|rfl|rfl|rfl|rfl|rfl|rfl|rfl|rfl|rfl|rfl|rfl|rfl|rfl|rfl<;>rfl) (by unfold maxLen;omega) (by omega) (by simp;have:=HM.out.lt;have:=Hc.out;omega) ?_;intro v' w6 I Hf HJ;obtain⟨g',cap',rfl,_,_⟩:=qai I (by omega);obtain⟨q4,r4⟩:=HM.out.at_.ahead (zB _).drew Hf)
    all_goals
     go_wp2
     go_meet
     have hX:=HM.out.more Hc.out (zB _).drew ⟨n,x,p5,ok⟩ I Hf HJ;exact⟨_,hX.1,(hX.2 _ _ _ HT.out).trans HT.out⟩
   case rest=>
   obtain⟨ve6,HZ⟩:=hcut;clear c2 c2' v0 v1 v2 v3 v4 v5 v6 v7 v8 v9 u0 u1 u2 u3 u4 u5 HM HT HV;obtain⟨u0,u1,u2,u3,u4,u5⟩:=qbu HZ.out.2;obtain⟨r0,r1,r2,r3,r4,r5'⟩:=qbu HZ.out.1.res;obtain⟨f0,f1,f2,f3,f4,f5⟩:=qgx HZ.out.1.res;go_wp2
   try rw[hy]
   obtain⟨D,X,Hj,hw,hJ,Hb,hs⟩:=HD.out;refine q91 (ok:=ok) (p5:=p5) (r5:=r5) Hc.out HZ.out.1 (zdb D ⟨HX.out.1,HX.out.2.2.2.1,X,Hb,hs⟩ rfl) X (by rw[yJ];omega) hw (by rw[yJ];simp;omega) Hb hs ?_ ?_ ?_
   all_goals rfl
  obtain⟨g7,cap7,h7,_,_⟩:=qai O.out.at_.ends (by omega);have H5:=(show Hid (ve.ownBlock=some g7) by rw[h7];rfl);rw[hv]at h7;obtain⟨rfl,rfl⟩:ao=some (zO g7 0)/\cap=cap7:=by injection h7 with a _ c;exact⟨a,c⟩
  clear h7;obtain⟨e,he⟩:∃e,E[i]?=some e:=⟨_,yc hZ⟩;have U:=O.out.at_.ends;rw[hv]at U;have hc:=fun j v (hv:(qe6 e)[j]?=some v)=>(U.cellAt (i*17+j) (by have:=qnw _ i e he j v hv;have:=(yb.1 this).1;rw[q1s]at this;exact this)).trans (qnw _ i e he j v hv);have c20:=hc 0 _ rfl;have c21:=hc 1 _ rfl;have c22:=hc 2 _ rfl;have c23:=hc 3 _ rfl;have c24:=hc 4 _ rfl;have c25:=hc 5 _ rfl;have c26:=hc 6 _ rfl;have c27:=hc 7 _ rfl;have c28:=hc 8 _ rfl;have c29:=hc 9 _ rfl;have HC:=zH hc;simp only[Nat.add_zero]at c20;have hz:(i:Int)<(E.length:Int):=by omega
  have H6:=zH he;have Hk:=zH (HI.out.each e (yl he));have HW:e.n<=100:=by
   obtain⟨_,_,_,_,_,h6,_⟩:=Hk.out.ins;have:e.n<6:=h6;omega
  have Hw:=zH HW;clear hc U he HW hv;by_cases hq:(e.n,e.x)=(n,x)
  rotate_left
  ·have hb:(false=true↔(e.n=n/\e.x.view=x.view)):=⟨(fun h=>nomatch h),fun h=>absurd (Prod.ext h.1 (zah Hk.out.cm HX.out.1 h.2)) hq⟩
   have HK:=fun w'=>zdy w' (qhr Hk.out.cm) (qhr HX.out.1) Hw.out ho.out hb;have hL:=fun w'=>qsd w' e.n n e.x.view x.view;have Hs:=fun w'=>qse w' (qhr Hk.out.cm) (qhr HX.out.1) Hw.out ho.out hb;unfold qfv at HK hL Hs;have HL:Hid (∀(j:Nat) (e':Et),j<i+1->E[j]?=some e'->(e'.n,e'.x)≠(n,x)):=fun j e' hj hM=>by
    rcases Nat.lt_or_ge j i with h|h
    ·exact Ho.out j e' h hM
    ·obtain rfl:j=i:=by omega
     rw[H6.out]at hM;obtain rfl:=yk hM;exact hq
   clear hq hb Ho;go_wp2
   go_region
   all_goals
    go_wp2
    refine⟨⟨i+1,m+1,by go_num,by omega,rfl,HL⟩,?_⟩;simp[intOf];omega
  have H7:=zH hq;have hb:(true=true↔(e.n=n/\e.x.view=x.view)):=⟨fun _=>by injection hq with h1 h2;exact⟨h1,by rw[h2]⟩,fun _=>rfl⟩;have HK:=fun w'=>zdy w' (qhr Hk.out.cm) (qhr HX.out.1) Hw.out ho.out hb;have hL:=fun w'=>qsd w' e.n n e.x.view x.view;have Hs:=fun w'=>qse w' (qhr Hk.out.cm) (qhr HX.out.1) Hw.out ho.out hb;unfold qfv at HK hL Hs;clear hq hb Ho;have c30:=HC.out 10 _ rfl;have c31:=HC.out 11 _ rfl;have c32:=HC.out 12 _ rfl;have c33:=HC.out 13 _ rfl;have c34:=HC.out 14 _ rfl;have c35:=HC.out 15 _ rfl;have c36:=HC.out 16 _ rfl;have hY:∃cur,w6.heap[g7]?=zK cur 201:=qac O.out.at_.ends g7 H5.out;have h8:¬K.g=w.heap.size+1:=qae O.out.at_.tp.blk O.out.res (by decide);have H8:¬g7=w.heap.size+1:=by obtain⟨cur,hc⟩:=hY;exact qae hc O.out.res (by decide)
  clear hY;have hl:=O;have rs0:=qaa hl.out.res 0 _ rfl;have rs1:=qaa hl.out.res 1 _ rfl;have rs2:=qaa hl.out.res 2 _ rfl;have rs3:=qaa hl.out.res 3 _ rfl;have rs4:=qaa hl.out.res 4 _ rfl;have rs5:=qaa hl.out.res 5 _ rfl;have z0:=fun i=>xH _ _ i _ _ hl.out.res;go_wp2
  go_region
  all_goals
   go_wp2
   go_region
   all_goals
    go_wp2
    have Hl:=Hk.out;have Hs:=H7.out;injection Hs with h1 h2;rw[hy];refine q91 (w5:=w6.drewN _) (ok:=e.ok) (p5:=e.p) Hc.out (qyh O.out _) HI.out Hl.sp (yg _) (yg _) (by omega) (fun h=>?_) (fun h=>?_) ?_ ?_ ?_
    ·obtain⟨y,a,b⟩:=Hl.yes h
     rw[h1,h2]at a;exact⟨y,a,b⟩
    ·have:=Hl.no h
     rw[h1,h2]at this;exact this
    all_goals rfl
end Go.Proofs.YtfkhljmiehdgmaaGreatDoor
