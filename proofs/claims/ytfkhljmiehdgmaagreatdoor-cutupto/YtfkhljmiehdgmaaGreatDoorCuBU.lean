/-
  Steps of the proof.
-/
import Derived.Test.YtfkhljmiehdgmaaGreatDoorCuBS
set_option maxRecDepth 100000
set_option maxHeartbeats 40000000
namespace Go.Proofs.YtfkhljmiehdgmaaGreatDoor
open Go.RowKit Go.Proofs.Tryz Pl
variable{K:Sk}{W:List Vt}{vW:Value}
theorem Enm.out{w0 wr:World}{p':Sp}{ve':Value}{E':List Et}(h:Enm K w0 wr W vW p' ve' E')(hB:K.B<=w0.heap.size)(v0 v1 v2 v3 v4 v5:Value):K.at_ (set6 wr (w0.heap.size+1) v0 v1 v2 v3 v4 v5) ve' E'/\Ck K.B w0 (set6 wr (w0.heap.size+1) v0 v1 v2 v3 v4 v5):=by
 have Ha:∀(k:Nat) (cs:Array Value) (t:TypeId) (fz:Nat×Nat),wr.heap[k]?=some (.cells cs t fz)->t≠94->(set6 wr (w0.heap.size+1) v0 v1 v2 v3 v4 v5).heap[k]?=wr.heap[k]?:=fun k cs t fz hk ht=>qc0 (qae hk h.res ht) _ _ _ _ _ _;have ha:∀(e:TypeId) (sz n:Nat) (v:Value) (xs:List Value),wr.ownsRow K.B e sz v n xs->e≠94->(set6 wr (w0.heap.size+1) v0 v1 v2 v3 v4 v5).ownsRow K.B e sz v n xs:=fun e sz n v xs hv he=>qab hv fun k hk=>by
  obtain⟨cur,hc⟩:=qac hv k hk;exact Ha _ _ _ _ hc he
 exact⟨⟨⟨(Ha _ _ _ _ h.at_.tp.blk (by decide)).trans h.at_.tp.blk,h.at_.tp.le,ha _ _ _ _ _ h.at_.tp.parts (by decide),fun i s hs=>⟨ha _ _ _ _ _ (h.at_.tp.row i s hs).1 (by decide),(h.at_.tp.row i s hs).2⟩⟩,ha _ _ _ _ _ h.at_.ends (by decide)⟩,qb9 h.ck.below (by omega) _ _ _ _ _ _,fun k cs t fz hk h1 h2=>(qc0 (by have:=(ya.1 hk).1;omega) _ _ _ _ _ _).trans (h.ck.keep k cs t fz hk h1 h2)⟩
theorem qvp{R:List Vt}{w w5:World}{E:List Et}{n:Nat}{x:Sx}{r:Nat}{p5:Sp}{ve5:Value}{E5:List Et}{r5:Nat}{ok:Bool}{a:Act}(hB:K.B<=w.heap.size)(hm:Enm K w w5 W vW p5 ve5 E5)(ha:EInv K.bd R r5 E5 W)(Hb:SpOk r5 p5)(Ha:E.length<=E5.length)(hc:r<=r5)(Hc:r5<=r+4000000*(E5.length - E.length)+4000000)
  (hb:ok=true->∃y,Done K.bd n x y/\ParX y p5/\Cm y) (he:ok=false->∀y,¬Done K.bd n x y) (h8:a.tmps.getD 8 undef=zP (w.heap.size+1)) (h9:a.tmps.getD 9 undef=.bool ok) (hd:a.defers=[]) :
  bodyPost prog f89 (fun e w'=>EdO K R w E W n x r 4000000 e w') .ret a (set6 w5 (w.heap.size+1) (zI p5.mode) (zV p5.tag) (zV p5.attr) (zV p5.inside) (zV p5.run) (zI p5.far)):=by
 have ho:=hm.out hB (zI p5.mode) (zV p5.tag) (zV p5.attr) (zV p5.inside) (zV p5.run) (zI p5.far);refine qbz results89 (w.heap.size+1) _ underlying94 rfl (by kernel_rfl) h8 ⟨_,_,hm.res,rfl⟩ hd _ _ _ _ _ _ _ h9 ?_;exact⟨p5,ok,ve5,E5,r5,rfl,ho.1,ha,Hb,Ha,hc,Hc,hb,he,ho.2⟩
theorem q90(K:Sk)(R:List Vt)(hK:SkOk K)(k:Nat)(HE:EndC K R k):zhw K R k:=by
 intro w ve vW E W n x p r hp Ht Hl Hu Hm hC hn Hn hW hB hk hr;obtain⟨s,hs⟩:∃s,K.S[n+1]?=some s:=⟨_,yc (by rw[hK.len];omega)⟩;have hP:qah K.S (n+1)=s.parts:=by unfold qah;rw[hs]
 obtain⟨ao,cap,hv⟩:=qaq (hp.tp.row (n+1) s hs).1;rw[hv];obtain⟨Q,Hp⟩:∃Q:Ending->World->Prop,Q=fun e w'=>EdO K R w E W n x r 4000000 e w':=⟨_,rfl⟩;rw[<-Hp];have Hg:=(hp.tp.row (n+1) s hs).2.len;have H0:Hid (Enm K w ((w.alloc (.cells (qan p) 94)).alloc (.cells #[zI 0,zS,zS,zS,zS,zI 0] 94)) W vW p ve E):=by
  have hb:=((xM w.heap.size w).alloc (yg _) (.cells (qan p) 94)).alloc (by simp) (.cells #[zI 0,zS,zS,zS,zS,zI 0] 94);exact⟨(xJ _ _ (by simp)).trans (xG _ _),qap _ _ _ (by simp),hp.kept hb,qab Ht fun q hq=>hb.block q (Ht.lt q hq).2,Ck.of_below hb hB⟩
 have HC:Hid (Enp K R E W n x r s.parts 0 p x E r []):=⟨Hl,Hu,Hm,hC,zeq _ _,by unfold Sk.bd;rw[hP];rfl,yH _,yg _,yg _,by omega⟩;unfold qaz;unfold qan at H0 |-;go_enter func89,ntmps89
 go_wp2
 generalize World.alloc _ _=w1 at H0 |-;have hD:=zH Hg;have ho:=zH hK;have HS:=zH hs;have HV:=zH hv;have Hf:=zH hB;have HX:=(show Hid (K.bd n=_/\n<K.N.length/\InS K.bd R (n,x)/\Cm x/\(∀u∈W,u=(n,x)\/Need K.bd u (n,x)))from⟨(show K.bd n=its K.nm s.parts by unfold Sk.bd;rw[hP]),hn,Hn,Hu,hW⟩);have Hv:=zH (And.intro hk hr);have hL:s.parts.length<=2000:=(hK.ok.parts (n+1) s hs).1;rw[Hg];clear hp Ht Hl Hu Hm hC hn Hn hW hB hk hr hP hs hv Hg hK;go_loopw [10] (fun v10 wr=>∃(i:Nat) (p':Sp) (x':Sx) (ve':Value) (E':List Et) (r':Nat) (pre:List It),v10=zI i/\Hid (Enm K w wr W vW p' ve' E')/\Hid (Enp K R E W n x r s.parts i p' x' E' r' pre)) (fun v10 _=>s.parts.length - (intOf v10).toNat)
 case atStart=>exact⟨0,p,x,ve,E,r,[],rfl,H0,HC⟩
 case round=>
  clear H0 HC;obtain⟨i,p',x',ve',E',r',pre,rfl,HM,HP⟩:=hrel;have HL:=HP.out.le;have q0:=qaa HM.out.spot 0 _ rfl;have q1:=qaa HM.out.spot 1 _ rfl;have q2:=qaa HM.out.spot 2 _ rfl;have q3:=qaa HM.out.spot 3 _ rfl;have q4:=qaa HM.out.spot 4 _ rfl;have q5:=qaa HM.out.spot 5 _ rfl;have hM:=zH HM.out.lt;by_cases Hq:i<s.parts.length
  rotate_left
  ·have Hw:¬(i:Int)<(s.parts.length:Int):=by omega
   have r0:=qaa HM.out.res 0 _ rfl;have r1:=qaa HM.out.res 1 _ rfl;have r2:=qaa HM.out.res 2 _ rfl;have r3:=qaa HM.out.res 3 _ rfl;have r4:=qaa HM.out.res 4 _ rfl;have r5:=qaa HM.out.res 5 _ rfl;have f0:=fun i=>xI _ _ i _ _ HM.out.res;have hN:Hid (Done K.bd n x x'):=by
    have hv:=HP.out.via;have hi:=HP.out.its;rw[q1e (by omega),yw]at hi;rw[<-hi]at hv;exact za5 hv
   go_wp2
   try rw[Hp]
   refine qvp (ok:=true) Hf.out HM.out HP.out.inv HP.out.sp HP.out.len HP.out.up (by have:=HP.out.few;omega) (fun _=>⟨x',hN.out,HP.out.par,HP.out.cm⟩) (fun h=>nomatch h) ?_ ?_ ?_
   all_goals rfl
  obtain⟨g7,cap7,h7,_,_⟩:=qai (HM.out.at_.tp.row (n+1) s HS.out).1 (by rw[hD.out];omega);rw[HV.out]at h7;obtain⟨rfl,rfl⟩:ao=some (zO g7 0)/\cap=cap7:=by injection h7 with a _ c;exact⟨a,c⟩
  clear h7;obtain⟨pt,hx⟩:∃pt,s.parts[i]?=some pt:=⟨_,yc Hq⟩;obtain⟨rm,Hr⟩:∃rm,(K.RL (n+1))[i]?=some rm:=⟨_,yc (by rw[hD.out];exact Hq)⟩;have Hs:=(HM.out.at_.tp.row (n+1) s HS.out).2.each i rm pt Hr hx;have Hi:=(HM.out.at_.tp.row (n+1) s HS.out).1;rw[HV.out]at Hi;have hc:=fun j v (hv:(qdi rm)[j]?=some v)=>(Hi.cellAt (i*6+j) (by have:=qd5 _ i rm Hr j v hv;have:=(yb.1 this).1;rw[qqf]at this;exact this)).trans (qd5 _ i rm Hr j v hv);have c0:wr.cell? (zO g7 (i*6+0))=some (zI (Pl.qb3 pt.kind)):=(hc 0 _ rfl).trans (by rw[Hs.kd]);have hE:Hid (wr.cell? (zO g7 (i*6+2))=some (zV pt.text)):=(hc 2 _ rfl).trans (by rw[Hs.text]);have hO:Hid (wr.cell? (zO g7 (i*6+5))=some (zI ((if pt.kind=3\/pt.kind=4 then pt.mate - i else 0:Nat)))):=(hc 5 _ rfl).trans (by rw[Hs.en]);have hg:=zH hx;clear hc Hi Hs Hr hx;have Hw:(i:Int)<(s.parts.length:Int):=by omega
  simp only[Nat.add_zero]at c0;go_upto_block 1 with fail
  go_cut [10,11,12,13,14,15]from 16 to 87 (fun v10 v11 v12 v13 v14 v15 wx=>∃(j:Nat) (p'':Sp) (x'':Sx) (ve'':Value) (E'':List Et) (r'':Nat) (pre'':List It),i<=j/\v10=zI j/\Hid (Enm K w wx W vW p'' ve'' E'')/\Hid (Enp K R E W n x r s.parts (j+1) p'' x'' E'' r'' pre''))
  case first=>
   have hf:=HP.out.few;have hu:=HP.out.up;have hl:=HP.out.len;have he:=HP.out.inv.few;have HO:=Hv.out.2;have hF:r'<=1900000000000000000:=by omega
   have Hx:=zH hF;clear hf hu hl he HO hF;have hy:=(show Hid (K.B<=wr.heap.size)from yh Hf.out (by have:=hM.out;omega));have hq:pt.text.length<=2000/\pt.mate<=2000:=by have:=(ho.out.ok.parts (n+1) s HS.out).2 pt (yl hg.out);exact⟨this.1,this.2.2⟩
   have Hy:=zH hq;clear hq;have Hk:=qo5 (ho.out.ok.wf (n+1) s HS.out) pt (yl hg.out);by_cases k1:pt.kind=1
   ·rw[show Pl.qb3 pt.kind=0 by rw[k1];rfl]at c0
    have hT:=fun W'=>qwq p' r' ⟨pt.text.toArray⟩ W' HP.out.sp (by have:=Hx.out;have:=Hy.out.1;rw[qb1];omega);unfold qaz qan at hT;have HT:=zH hT;have HN:=zH (HP.out.text hg.out k1 Hy.out.1);have c2:=hE.out;clear hT k1 Hk;go_upto_region 6 with fail
    go_region_with (go_at_call 54;refine(HT.out _).mono ?_;rintro e w5 ⟨rfl,hb⟩;have Ha:=zH (HM.out.kept ⟨hb.os,hb.tape,hb.output,hb.size,hb.block⟩ hy.out);have u0:=qaa Ha.out.spot 0 _ rfl;have u1:=qaa Ha.out.spot 1 _ rfl;have u2:=qaa Ha.out.spot 2 _ rfl;have u3:=qaa Ha.out.spot 3 _ rfl;have u4:=qaa Ha.out.spot 4 _ rfl;have u5:=qaa Ha.out.spot 5 _ rfl;have f0:=fun i=>xI _ _ i _ _ Ha.out.spot;clear hb;dsimp only)
    all_goals
     go_wp2
     go_meet
     exact⟨i,_,_,_,_,_,_,yg _,rfl,Ha.out.set Hf.out (qei p' pt.text),HN.out⟩
   by_cases k2:pt.kind=2
   ·rw[show Pl.qb3 pt.kind=1 by rw[k2];rfl]at c0
    have hT:=fun W'=>qx0 p' W' (by have:=HP.out.sp.tag;omega) (by have:=HP.out.sp.attr;omega) (by have:=HP.out.sp.inside;omega) (by have:=HP.out.sp.run;have:=Hx.out;omega);unfold qaz qan at hT;have HT:=zH hT;have HN:=zH (HP.out.hole hg.out k2);clear hT k1 k2 Hk;generalize p'.view.hole=vh at HT;generalize Sp.behindHole p'=ph at HT HN;go_wp2_with (go_at_call 55;refine(HT.out _).mono ?_;rintro e w5 ⟨rfl,hb⟩;have Ha:=zH (HM.out.kept ⟨hb.os,hb.tape,hb.output,hb.size,hb.block⟩ hy.out);have u0:=qaa Ha.out.spot 0 _ rfl;have u1:=qaa Ha.out.spot 1 _ rfl;have u2:=qaa Ha.out.spot 2 _ rfl;have u3:=qaa Ha.out.spot 3 _ rfl;have u4:=qaa Ha.out.spot 4 _ rfl;have u5:=qaa Ha.out.spot 5 _ rfl;have f0:=fun i=>xI _ _ i _ _ Ha.out.spot;clear hb;dsimp only)
    go_meet
    exact⟨i,_,_,_,_,_,_,yg _,rfl,Ha.out.set Hf.out ph,HN.out⟩
   by_cases k34:pt.kind=3\/pt.kind=4
   ·rw[show Pl.qb3 pt.kind=2 by rcases k34 with h | h<;>rw[h]<;>rfl]at c0
    have hm:=qh1 (ho.out.ok.wf (n+1) s HS.out) i pt hg.out k34;have hQ:=hO.out;rw[if_pos k34]at hQ;have HN:=zH (HP.out.over (j:=pt.mate) (by omega) (by omega) (q1d hg.out k34 (by omega)));have HQ:(i:Int)+((pt.mate - i:Nat):Int)=(pt.mate:Int):=by omega
    have hR:=(show Hid (i<=pt.mate) by show _<=_;omega);have hZ:pt.mate<=2000:=Hy.out.2;clear hm k1 k2 k34 Hk;go_wp2
    go_meet
    exact⟨pt.mate,_,_,_,_,_,_,hR.out,by first|rfl|(congr 1;unfold wrap64;omega),HM.out,HN.out⟩
   by_cases k5:pt.kind=5
   ·rw[show Pl.qb3 pt.kind=3 by rw[k5];rfl]at c0
    have HN:=zH (HP.out.over (j:=i) (yg _) Hq (qs9 hg.out (.inl k5)));clear k1 k2 k34 k5 Hk;go_wp2
    go_meet
    exact⟨i,_,_,_,_,_,_,yg _,rfl,HM.out,HN.out⟩
   have k6:pt.kind=6:=by omega
   rw[show Pl.qb3 pt.kind=4 by rw[k6];rfl]at c0;have c2:=hE.out;have HF:=zH (q8h ⟨pt.text.toArray⟩ HM.out.at_.tp (by have:=ho.out.six;omega));cases hj:qfr K.nm pt.text
   ·have HN:=zH (HP.out.over (j:=i) (yg _) Hq (qs9 hg.out (.inr ⟨k6,hj⟩)))
    have ht:=(show Hid (qfr (K.N.map fun y=>y.data.toList) (⟨pt.text.toArray⟩:zT).data.toList=none)from hj);have HR:Hid (zC 56 #[zP K.g,zV pt.text] wr fun e w'=>e=.returned (zI (-1))/\w'=wr):=by
     refine xR HF.out ?_;rintro e w' ⟨⟨rr,rfl,hz⟩,hw⟩;rcases hz with⟨rfl,_⟩|⟨k,_,h⟩
     ·exact⟨rfl,hw⟩
     ·rw[ht.out]at h;cases h
    clear k1 k2 k34 k5 k6 Hk hj;go_wp2_with (go_at_call 56;refine xR HR.out ?_;rintro e w5 ⟨rfl,rfl⟩;dsimp only)
    go_meet
    exact⟨i,_,_,_,_,_,_,yg _,rfl,HM.out,HN.out⟩
   next m=>
   have ht:=(show Hid (qfr (K.N.map fun y=>y.data.toList) (⟨pt.text.toArray⟩:zT).data.toList=some m)from hj);have Hj:=zH (HP.out.named hg.out k6 hj HX.out.1 hL ho.out.six HX.out.2.2.1 HX.out.2.2.2.1);have hU:=(show Hid (∀ {p5:Sp} {y:Sx} {E5:List Et} {r5:Nat} (_:Done K.bd m x' y) (_:ParX y p5) (_:Cm y) (_:EInv K.bd R r5 E5 W) (_:SpOk r5 p5) (_:E'.length<=E5.length) (_:r'<=r5) (_:r5<=r'+4000000*(E5.length - E'.length)+0),Enp K R E W n x r s.parts (i+1) p5 y E5 r5 (pre++[.ca m]))from fun a b c d e f g h=>HP.out.call hg.out k6 hj a b c d e f g h);clear k1 k2 k34 k5 k6 Hk hj;have hS:=fun W'=>qrw p' W' (by have:=HP.out.sp.tag;omega) (by have:=HP.out.sp.attr;omega) (by have:=HP.out.sp.inside;omega) (by have:=HP.out.sp.run;have:=Hx.out;omega);rw[qmb _ _ HP.out.cm.fit.fit.ok HP.out.par]at hS;unfold qaz qan qwb qfa at hS;have HU:=zH hS;clear hS;have HZ:¬(m:Int)<0:=by omega
   have hV:Hid (zC 56 #[zP K.g,zV pt.text] wr fun e w'=>e=.returned (zI m)/\w'=wr):=by
    refine xR HF.out ?_;rintro e w' ⟨⟨rr,rfl,hz⟩,hw⟩;rcases hz with⟨rfl,h⟩|⟨k,rfl,h⟩
    ·rw[ht.out]at h;cases h
    ·rw[ht.out]at h
     injection h with h;exact⟨by rw[h],hw⟩
   go_upto_region 14 with(go_at_call 56;refine xR hV.out ?_;rintro e w5 ⟨rfl,rfl⟩;dsimp only)
   go_upto_region 15 with(go_at_call 41;refine(HU.out _).mono ?_;rintro e w5 ⟨rfl,hb⟩;have Ha:=zH (HM.out.kept ⟨hb.os,hb.tape,hb.output,hb.size,hb.block⟩ hy.out);clear hb;dsimp only)
   have Ho:=zH (Ha.out.kept (w':=w5.alloc (.cells #[zI m,zI x'.view.mode,zI x'.view.elem,zI x'.view.attr,zI x'.view.ends,zI x'.view.esc,zI x'.view.pct,zI x'.view.link,zV x'.view.name,.bool x'.view.ref] 143)) (zB _) (yh Hf.out (by have:=Ha.out.lt;omega)));have ha:=xG w5 (.cells #[zI m,zI x'.view.mode,zI x'.view.elem,zI x'.view.attr,zI x'.view.ends,zI x'.view.esc,zI x'.view.pct,zI x'.view.link,zV x'.view.name,.bool x'.view.ref] 143);generalize World.alloc w5 _=w6 at Ho ha |-;generalize w5.heap.size=VB at ha |-;have v0:=qaa ha 0 _ rfl;have v1:=qaa ha 1 _ rfl;have v2:=qaa ha 2 _ rfl;have v3:=qaa ha 3 _ rfl;have v4:=qaa ha 4 _ rfl;have v5:=qaa ha 5 _ rfl;have v6:=qaa ha 6 _ rfl;have v7:=qaa ha 7 _ rfl;have v8:=qaa ha 8 _ rfl;have v9:=qaa ha 9 _ rfl;clear ha Ha q0 q1 q2 q3 q4 q5 c0 c2;have Hz:=fun(W':World) (h:W'.ownsRow K.B 143 10 vW W.length (qcv W))=>qpp K.B vW W m x' W' (by have:=HP.out.inv.few;omega) h (fun u hu=>(HP.out.inv.wins u hu).2) HP.out.cm;unfold qfv at Hz;have hG:=zH Hz;clear Hz;go_upto_if 74 with(go_at_call 57;refine xR (hG.out _ Ho.out.wi) ?_;rintro e w7 ⟨⟨b,rfl,hb⟩,HG⟩;have hI:=zH hb;have He:=zH (Ho.out.kept HG (yh Hf.out (by have:=Ho.out.lt;omega)));clear hb HG;dsimp only)
   have q0:=qaa He.out.spot 0 _ rfl;have q1:=qaa He.out.spot 1 _ rfl;have q2:=qaa He.out.spot 2 _ rfl;have q3:=qaa He.out.spot 3 _ rfl;have q4:=qaa He.out.spot 4 _ rfl;have q5:=qaa He.out.spot 5 _ rfl;clear v0 v1 v2 v3 v4 v5 v6 v7 v8 v9 Ho hG;cases b
   rotate_left
   ·have hA:Hid (∀y,¬Done K.bd n x y):=by
     have HW:=hI.out.1 rfl;rcases HX.out.2.2.2.2 _ HW with e|e
     ·have:=Hj.out.2.2
      rw[e]at this;exact Need.self this
     ·exact Need.self (Hj.out.2.2.trans e)
    have Hc:=He;have rs0:=qaa Hc.out.res 0 _ rfl;have rs1:=qaa Hc.out.res 1 _ rfl;have rs2:=qaa Hc.out.res 2 _ rfl;have rs3:=qaa Hc.out.res 3 _ rfl;have rs4:=qaa Hc.out.res 4 _ rfl;have rs5:=qaa Hc.out.res 5 _ rfl;have z0:=fun i=>xI _ _ i _ _ Hc.out.res;go_wp2
    try rw[Hp]
    refine qvp (ok:=false) Hf.out He.out HP.out.inv HP.out.sp HP.out.len HP.out.up (by have:=HP.out.few;omega) (fun h=>nomatch h) (fun _=>hA.out) ?_ ?_ ?_
    all_goals rfl
   have hX:=(show Hid ((m,x')∉W) from fun h=>by have:=hI.out.2 h;cases this);have HA:=HE w7 ve' vW E' W m x' p' r' He.out.at_ He.out.wi HP.out.inv HP.out.cm HP.out.par HP.out.sp Hj.out.1 Hj.out.2.1 hX.out (fun u hu=>by
    rcases HX.out.2.2.2.2 u hu with e|e
    ·rw[e];exact Hj.out.2.2
    ·exact e.trans Hj.out.2.2) (yh Hf.out (by have:=He.out.lt;omega)) (by have:=Hv.out.1;have:=HP.out.len;omega) (by have:=Hv.out.2;have:=HP.out.few;have:=HP.out.len;have:=HP.out.inv.few;omega)
   unfold qaz qan at HA;have hY:=zH HA;clear HA;go_upto_region 19 with(go_at_call 58;refine xR hY.out ?_;rintro e w8 ⟨p5,ok,ve5,E5,r5,rfl,hd⟩;unfold qaz qan;have HD:=zH hd;clear hd;dsimp only)
   have HB:=zH (He.out.ended HD.out.ck HD.out.at_);have Hb:=zH (HB.out.kept (w':=w8.alloc (.cells (qan p5) 94)) (zB _) (yh Hf.out (by have:=HB.out.lt;omega)));have ha:=xG w8 (.cells (qan p5) 94);unfold qan at Hb ha;generalize World.alloc w8 _=w9 at Hb ha |-;generalize w8.heap.size=TB at ha |-;have v0:=qaa ha 0 _ rfl;have v1:=qaa ha 1 _ rfl;have v2:=qaa ha 2 _ rfl;have v3:=qaa ha 3 _ rfl;have v4:=qaa ha 4 _ rfl;have v5:=qaa ha 5 _ rfl;clear ha q0 q1 q2 q3 q4 q5 HB He;cases ok
   ·have hA:Hid (∀y,¬Done K.bd n x y):=Need.not Hj.out.2.2 (HD.out.no rfl)
    have Hc:=Hb;have q0:=qaa Hb.out.spot 0 _ rfl;have q1:=qaa Hb.out.spot 1 _ rfl;have q2:=qaa Hb.out.spot 2 _ rfl;have q3:=qaa Hb.out.spot 3 _ rfl;have q4:=qaa Hb.out.spot 4 _ rfl;have q5:=qaa Hb.out.spot 5 _ rfl;have rs0:=qaa Hc.out.res 0 _ rfl;have rs1:=qaa Hc.out.res 1 _ rfl;have rs2:=qaa Hc.out.res 2 _ rfl;have rs3:=qaa Hc.out.res 3 _ rfl;have rs4:=qaa Hc.out.res 4 _ rfl;have rs5:=qaa Hc.out.res 5 _ rfl;have z0:=fun i=>xI _ _ i _ _ Hc.out.res;go_wp2
    try rw[Hp]
    refine qvp (ok:=false) (p5:=p') (r5:=r5) Hf.out Hb.out HD.out.inv (HP.out.sp.le HD.out.up) (yh HP.out.len HD.out.len) (yh HP.out.up HD.out.up) (by have:=HP.out.few;have:=HD.out.le;have:=HD.out.len;have:=HP.out.len;omega) (fun h=>nomatch h) (fun _=>hA.out) ?_ ?_ ?_
    all_goals rfl
   obtain⟨y,HI,hJ,HJ⟩:=HD.out.yes rfl;have HN:=zH (hU.out HI hJ HJ HD.out.inv HD.out.sp HD.out.len HD.out.up HD.out.le);clear HI hJ HJ;have u0:=qaa Hb.out.spot 0 _ rfl;have u1:=qaa Hb.out.spot 1 _ rfl;have u2:=qaa Hb.out.spot 2 _ rfl;have u3:=qaa Hb.out.spot 3 _ rfl;have u4:=qaa Hb.out.spot 4 _ rfl;have u5:=qaa Hb.out.spot 5 _ rfl;have f0:=fun i=>xI _ _ i _ _ Hb.out.spot;go_wp2
   go_meet
   exact⟨i,_,_,_,_,_,_,yg _,rfl,Hb.out.set Hf.out p5,HN.out⟩
  case rest=>
  obtain⟨j,p'',x'',ve'',E'',r'',pre'',h0,rfl,HY,HK⟩:=hcut;have h1:=HK.out.le;go_wp2
  refine⟨⟨j+1,p'',x'',ve'',E'',r'',pre'',by go_num,HY,HK⟩,?_⟩;simp[intOf];omega
end Go.Proofs.YtfkhljmiehdgmaaGreatDoor
