/-
  Steps of the proof.
-/
import Derived.Test.YtfkhljmiehdgmaaGreatDoorCuBS
import Derived.Test.YtfkhljmiehdgmaaGreatDoorCuBQ
import Derived.Test.YtfkhljmiehdgmaaGreatDoorCuBJ
import Derived.Test.YtfkhljmiehdgmaaGreatDoorCuBA
set_option maxRecDepth 100000
set_option maxHeartbeats 40000000
namespace Go.Proofs.YtfkhljmiehdgmaaGreatDoor
open Go.RowKit Go.Proofs.Tryz Pl
variable{m:Nat}{y:Sx}
structure Cw(B:Nat)(w w':World):Prop where
 below:Below B w w'
 keep:∀(k:Nat) (cs:Array Value) (t:TypeId) (fz:Nat×Nat),w.heap[k]?=some (.cells cs t fz)->(t≠201/\t≠101)/\t≠92/\t≠143->w'.heap[k]?=w.heap[k]?
structure WkAt(K:Sk)(w:World)(gw:Nat)(ve vS:Value)(E:List Et)(R:List Vt)(F:Ft):Prop where
 at_:K.at_ w ve E
 blk:w.heap[gw]?=zK #[zP K.g,vS,zI F.code,zI F.kind,bs F.place,zI F.pos] 92
 le:K.B<=gw
 seen:w.ownsRow K.B 143 10 vS R.length (qcv R)
structure Tm(K:Sk)(w0 wr:World)(gw:Nat)(ve vS:Value)(E:List Et)(R:List Vt)(F:Ft)(p':Sp):Prop where
 spot:wr.heap[w0.heap.size]?=zK (qan p') 94
 res:wr.heap[w0.heap.size+1]?=zK #[zI 0,zS,zS,zS,zS,zI 0] 94
 wk:WkAt K wr gw ve vS E R F
 ck:Cw K.B w0 wr
def SlOf(pj:Value)(L off len:Nat)(v:Value):Prop:=∃ao cap,v=.slice ao len cap/\len<=cap/\(0<len->∃g cap0,pj=zF g L cap0/\ao=some (zO g (off*6)))
abbrev Sk.cl(K:Sk)(R:List Vt)(j i:Nat)(x:Sx):Prop:=Cl K.bd K.nm (qah K.S j) R i x
structure TrP(K:Sk)(R0 R:List Vt)(E0 E:List Et)(r0 r j off len:Nat)(x0:Sx):Prop where
 inv:EInv K.bd R r E []
 pre:R0 <+: R
 all:∀u∈R,Cm u.2/\u.1<K.N.length
 few:R.length<=257
 lenE:E0.length<=E.length
 up:r0<=r
 le:r<=r0+4000000*(E.length - E0.length)+4000000*(R.length - R0.length)+2000*len
 cl:R.length<=256->K.cl R j off x0/\∀v∈R,v∉R0->K.cl R (v.1+1) 0 v.2
def TrO(K:Sk)(w:World)(gw:Nat)(E:List Et)(R:List Vt)(r j off len:Nat)(x:Sx)(F:Ft)(e:Ending)(w':World):Prop:=
 ∃p' ok ve' vS' E' R' r',e=.returned (.tuple #[qaz p',.bool ok])/\WkAt K w' gw ve' vS' E' R' F/\Cw K.B w w'/\TrP K R R' E E' r r' j off len x
def q3y(K:Sk)(k:Nat):Prop:=∀(w:World) (gw:Nat) (ve vS v:Value) (E:List Et) (R:List Vt) (r j off len:Nat) (x:Sx) (p:Sp) (F:Ft),
 WkAt K w gw ve vS E R F->SlOf (K.pv j) (qah K.S j).length off len v->j<=K.N.length->off+len<=(qah K.S j).length->((∀q,(qah K.S j)[off+len]?=some q->q.kind=5)/\∀(i:Nat) (q:Pt),off<=i->i<off+len->(qah K.S j)[i]?=some q->(q.kind=3\/q.kind=4)->q.mate<off+len) ->
 EInv K.bd R r E []->Cm x->ParX x p->SpOk r p->(∀u∈R,Cm u.2/\u.1<K.N.length)->R.length<=256->K.B<=w.heap.size ->
 (257 - R.length)*3000+len<=k->r+4000000*(429926418001 - E.length)+4000000*(257 - R.length)+2000*len<=1900000000000000000 ->
 zC 33 #[zP gw,v,qaz p] w fun e w'=>TrO K w gw E R r j off len x F e w'
structure Tp(K:Sk)(R0 R:List Vt)(E0 E:List Et)(r0 r j off len i:Nat)(x0 x:Sx)(p:Sp):Prop where
 inv:EInv K.bd R r E []
 cm:Cm x
 par:ParX x p
 sp:SpOk r p
 pre:R0 <+: R
 all:∀u∈R,Cm u.2/\u.1<K.N.length
 few:R.length<=257
 lenE:E0.length<=E.length
 up:r0<=r
 le:r<=r0+4000000*(E.length - E0.length)+4000000*(R.length - R0.length)+2000*(i - off)
 lo:off<=i
 hi:i<=off+len
 cl:R.length<=256->(∀R2,(∀u∈R,u∈R2)->K.cl R2 j i x->K.cl R2 j off x0)/\∀v∈R,v∉R0->K.cl R (v.1+1) 0 v.2
section
variable {K:Sk}{w0 wr w1 w w':World}{gw:Nat}{ve vS ve' vS':Value}{E E' E0:List Et}{R R' R0:List Vt}{F:Ft}{p p':Sp}{r r' r0 j off len i:Nat}{x x' x0:Sx}{B:Nat}{pt:Pt}
theorem Cw.refl(B:Nat)(w:World):Cw B w w:=⟨xL _ _,fun _ _ _ _ _ _=>rfl⟩
theorem Cw.trans{a b c:World}(h:Cw B a b)(k:Cw B b c):Cw B a c:=
 ⟨h.below.trans k.below,fun i cs t fz hi h1=>(k.keep i cs t fz ((h.keep i cs t fz hi h1).trans hi) h1).trans (h.keep i cs t fz hi h1)⟩
theorem Cw.of_below(h:zW w w')(hB:B<=w.heap.size):Cw B w w':=⟨h.mono hB,fun k _ _ _ hk _=>h.block k (ya.1 hk).1⟩
theorem Cw.of_ck(h:Ck B w w'):Cw B w w':=⟨h.below,fun k cs t fz hk h1=>h.keep k cs t fz hk h1.1.1 h1.1.2⟩
theorem WkAt.kept(h:WkAt K w gw ve vS E R F)(hb:zW w w'):WkAt K w' gw ve vS E R F:=
 ⟨h.at_.kept hb,(hb.block _ (zL h.blk)).trans h.blk,h.le,qab h.seen fun q hq=>hb.block q (h.seen.lt q hq).2⟩
theorem WkAt.ended(h:WkAt K w gw ve vS E R F)(ha:Ck K.B w w')(Ha:K.at_ w' ve' E'):WkAt K w' gw ve' vS E' R F:=by
 refine⟨Ha,(ha.keep _ _ _ _ h.blk (by decide) (by decide)).trans h.blk,h.le,qab h.seen fun q hq=>?_⟩;obtain⟨cur,hc⟩:=qac h.seen q hq;exact ha.keep _ _ _ _ hc (by decide) (by decide)
theorem WkAt.set(h:WkAt K w gw ve vS E R F){g:Nat}{cs:Array Value}{fz:Nat×Nat}(hg:w.heap[g]?=some (.cells cs 94 fz))(v0 v1 v2 v3 v4 v5:Value):WkAt K (set6 w g v0 v1 v2 v3 v4 v5) gw ve vS E R F:=by
 have Ha:∀(k:Nat) (cs:Array Value) (t:TypeId) (fz:Nat×Nat),w.heap[k]?=some (.cells cs t fz)->t≠94->(set6 w g v0 v1 v2 v3 v4 v5).heap[k]?=w.heap[k]?:=fun k cs t fz hk ht=>qc0 (qae hk hg ht) _ _ _ _ _ _;have ha:∀(e:TypeId) (sz n:Nat) (v:Value) (xs:List Value),w.ownsRow K.B e sz v n xs->e≠94->(set6 w g v0 v1 v2 v3 v4 v5).ownsRow K.B e sz v n xs:=fun e sz n v xs hv he=>qab hv fun k hk=>by
  obtain⟨cur,hc⟩:=qac hv k hk;exact Ha _ _ _ _ hc he
 exact⟨⟨⟨(Ha _ _ _ _ h.at_.tp.blk (by decide)).trans h.at_.tp.blk,h.at_.tp.le,ha _ _ _ _ _ h.at_.tp.parts (by decide),fun i s hs=>⟨ha _ _ _ _ _ (h.at_.tp.row i s hs).1 (by decide),(h.at_.tp.row i s hs).2⟩⟩,ha _ _ _ _ _ h.at_.ends (by decide)⟩,(Ha _ _ _ _ h.blk (by decide)).trans h.blk,h.le,ha _ _ _ _ _ h.seen (by decide)⟩
theorem Cw.set(h:Cw B w0 w){g:Nat}(hg:w0.heap.size<=g)(hB:B<=g)(v0 v1 v2 v3 v4 v5:Value):Cw B w0 (set6 w g v0 v1 v2 v3 v4 v5):=
 ⟨qb9 h.below hB _ _ _ _ _ _,fun k cs t fz hk h1=>(qc0 (by have:=(ya.1 hk).1;omega) _ _ _ _ _ _).trans (h.keep k cs t fz hk h1)⟩
theorem Tm.lt(h:Tm K w0 wr gw ve vS E R F p):w0.heap.size+1<wr.heap.size:=(zL h.res)
theorem Tm.kept(h:Tm K w0 wr gw ve vS E R F p)(hb:zW wr w')(hB:K.B<=w0.heap.size):Tm K w0 w' gw ve vS E R F p:=by
 have hl:=h.lt;exact⟨(hb.block _ (by omega)).trans h.spot,(hb.block _ hl).trans h.res,h.wk.kept hb,h.ck.trans (Cw.of_below hb (by omega))⟩
theorem Tm.drew(h:Tm K w0 wr gw ve vS E R F p):Tm K w0 wr.drew gw ve vS E R F p:=
 ⟨h.spot,h.res,⟨⟨h.wk.at_.tp.drew,qab h.wk.at_.ends fun _ _=>rfl⟩,h.wk.blk,h.wk.le,qab h.wk.seen fun _ _=>rfl⟩,h.ck.below.drew,h.ck.keep⟩
theorem Tm.trod(h:Tm K w0 wr gw ve vS E R F p)(hc:Cw K.B wr w')(hw:WkAt K w' gw ve' vS' E' R' F):Tm K w0 w' gw ve' vS' E' R' F p:=
 ⟨(hc.keep _ _ _ _ h.spot (by decide)).trans h.spot,(hc.keep _ _ _ _ h.res (by decide)).trans h.res,hw,h.ck.trans hc⟩
theorem Tm.ended(h:Tm K w0 wr gw ve vS E R F p)(ha:Ck K.B wr w')(Ha:K.at_ w' ve' E'):Tm K w0 w' gw ve' vS E' R F p:=h.trod (Cw.of_ck ha) (h.wk.ended ha Ha)
theorem Tm.set(h:Tm K w0 wr gw ve vS E R F p)(hB:K.B<=w0.heap.size)(q:Sp):Tm K w0 (set6 wr w0.heap.size (zI q.mode) (zV q.tag) (zV q.attr) (zV q.inside) (zV q.run) (zI q.far)) gw ve vS E R F q:=
 ⟨qmz h.spot _ _ _ _ _ _,(qc0 (by omega) _ _ _ _ _ _).trans h.res,h.wk.set h.spot _ _ _ _ _ _,h.ck.set (yg _) hB _ _ _ _ _ _⟩
theorem Tm.setFar(h:Tm K w0 wr gw ve vS E R F p)(hB:K.B<=w0.heap.size){g:Nat}{cs:Array Value}{fz:Nat×Nat}(hg:wr.heap[g]?=some (.cells cs 94 fz))(ha:w0.heap.size+1<g)(v0 v1 v2 v3 v4 v5:Value):Tm K w0 (set6 wr g v0 v1 v2 v3 v4 v5) gw ve vS E R F p:=
 ⟨(qc0 (by omega) _ _ _ _ _ _).trans h.spot,(qc0 (by omega) _ _ _ _ _ _).trans h.res,h.wk.set hg _ _ _ _ _ _,h.ck.set (by omega) (by omega) _ _ _ _ _ _⟩
theorem Tm.out(h:Tm K w0 wr gw ve vS E R F p)(hB:K.B<=w0.heap.size)(v0 v1 v2 v3 v4 v5:Value):WkAt K (set6 wr (w0.heap.size+1) v0 v1 v2 v3 v4 v5) gw ve vS E R F/\Cw K.B w0 (set6 wr (w0.heap.size+1) v0 v1 v2 v3 v4 v5):=
 ⟨h.wk.set h.res _ _ _ _ _ _,h.ck.set (by omega) (by omega) _ _ _ _ _ _⟩
theorem WkAt.apart(h:WkAt K w gw ve vS E R F)(hb:zW w w1)(Ha:w1.grownBy w' vS.ownBlock){k:Nat}{cs:Array Value}{t:TypeId}{fz:Nat×Nat}(hk:w.heap[k]?=some (.cells cs t fz))(ht:t≠143):w'.heap[k]?=w.heap[k]?:=by
 have ha:=(ya.1 hk).1;refine(Ha.block k (yi ha hb.size) (fun e=>?_)).trans (hb.block k ha);obtain⟨cur,hc⟩:=qac h.seen k e.symm;exact qae hk hc ht rfl
theorem WkAt.ahead(h:WkAt K w gw ve vS E R F)(hb:zW w w1)(ha:w1.grownBy w' vS.ownBlock):w'.cell? (zO gw 1)=some vS/\w'.frozen? (zO gw 1)=false:=by
 have hg:=(h.apart hb ha h.blk (by decide)).trans h.blk;exact⟨qaa hg 1 _ rfl,xH _ _ 1 _ _ hg⟩
theorem Tm.more(h:Tm K w0 wr gw ve vS E R F p)(hB:K.B<=w0.heap.size)(hb:zW wr w1)(u:Vt)(Hc:w'.ownsRow K.B 143 10 vS' (R.length+1) (qcv R++(qcj u.1 u.2.view).toList))(he:w1.grownBy w' vS.ownBlock)(He:vS'.ownBlock=vS.ownBlock\/vS'.ownBlock=some w1.heap.size) :
  Tm K w0 (w'.setCell (zO gw 1) vS') gw ve vS' E (R++[u]) F p:=by
 have hg:=(h.wk.apart hb he h.wk.blk (by decide)).trans h.wk.blk;have Hf:=(zL h.wk.blk);have Hg:=hb.size;have hi:=h.lt;have hf:vS'.ownBlock≠some gw:=by
  intro q;rcases He with z|z
  ·rw[q]at z
   obtain⟨cur,hc⟩:=qac h.wk.seen gw z.symm;exact qae h.wk.blk hc (by decide) rfl
  ·rw[q]at z
   injection z with z;omega
 have Hb:∀k,k≠gw->(w'.setCell (zO gw 1) vS').heap[k]?=w'.heap[k]?:=fun k hk=>xK _ _ _ _ hk;have ha:∀(k:Nat) (cs:Array Value) (t:TypeId) (fz:Nat×Nat),wr.heap[k]?=some (.cells cs t fz)->t≠143->t≠92->(w'.setCell (zO gw 1) vS').heap[k]?=wr.heap[k]?:=fun k cs t fz hk h1 h2=>(Hb k (qae hk h.wk.blk h2)).trans (h.wk.apart hb he hk h1);have Ha:∀(t:TypeId) (sz n:Nat) (v:Value) (xs:List Value),wr.ownsRow K.B t sz v n xs->t≠143->t≠92->(w'.setCell (zO gw 1) vS').ownsRow K.B t sz v n xs:=fun t sz n v xs hv h1 h2=>qab hv fun k hk=>by
  obtain⟨cur,hc⟩:=qac hv k hk;exact ha _ _ _ _ hc h1 h2
 have a:=h.wk.at_;refine⟨(ha _ _ _ _ h.spot (by decide) (by decide)).trans h.spot,(ha _ _ _ _ h.res (by decide) (by decide)).trans h.res,⟨⟨⟨(ha _ _ _ _ a.tp.blk (by decide) (by decide)).trans a.tp.blk,a.tp.le,Ha _ _ _ _ _ a.tp.parts (by decide) (by decide),fun i s hs=>⟨Ha _ _ _ _ _ (a.tp.row i s hs).1 (by decide) (by decide),(a.tp.row i s hs).2⟩⟩,Ha _ _ _ _ _ a.ends (by decide) (by decide)⟩,xG w' gw 1 _ _ _ hg,h.wk.le,?_⟩,?_,fun k cs t fz hk h1=>?_⟩
 ·rw[yJ,qn6]
  exact qab Hc fun k hk=>Hb k (fun e=>hf (by rw[<-e];exact hk))
 ·exact((h.ck.below.trans (hb.mono (by omega))).grown he (by omega) (fun q hq=>(World.ownsRow.lt h.wk.seen q hq).1)).setCell h.wk.le _
 ·have:=h.ck.keep k cs t fz hk h1
  exact(ha k cs t fz (this.trans hk) h1.2.2 h1.2.1).trans this
theorem qyl{W:List Vt}(h:EInv K.bd R r E W)(hp:R <+: R'):EInv K.bd R' r E W:=⟨fun e he=>⟨(h.each e he).cm,q3b (h.each e he).ins hp,(h.each e he).sp,(h.each e he).yes,(h.each e he).no⟩,h.apart,fun u hu=>⟨q3b (h.wins u hu).1 hp,(h.wins u hu).2⟩⟩
theorem Tp.text(h:Tp K R0 R E0 E r0 r j off len i x0 x p)(hq:(qah K.S j)[i]?=some pt)(hi:i<off+len)(hk:pt.kind=1)(hl:pt.text.length<=2000) :
  Tp K R0 R E0 E r0 (r+pt.text.length) j off len (i+1) x0 (qax x pt.text) (qei p pt.text):=by
 have:=h.le;have:=h.lo;exact⟨q94 h.inv (by omega),zaj _ _ h.cm,qx6 _ _ _ h.cm.fit.fit.ok h.par,spFromOk _ _ _ h.sp,h.pre,h.all,h.few,h.lenE,by have:=h.up;omega,by omega,by omega,by omega,fun h6=>⟨fun R2 hR hc=>(h.cl h6).1 R2 hR (zgg hq hk hc),(h.cl h6).2⟩⟩
theorem Tp.hole(h:Tp K R0 R E0 E r0 r j off len i x0 x p)(hq:(qah K.S j)[i]?=some pt)(hi:i<off+len)(hk:pt.kind=2) :
  Tp K R0 R E0 E r0 r j off len (i+1) x0 x.behindHole p.behindHole:=by
 have:=h.le;have:=h.lo;refine⟨h.inv,zai h.cm,qhl _ _ h.cm.fit.fit.ok h.par,?_,h.pre,h.all,h.few,h.lenE,h.up,by omega,by omega,by omega,fun h6=>⟨fun R2 hR hc=>(h.cl h6).1 R2 hR (zgj hq hk hc),(h.cl h6).2⟩⟩;unfold Sp.behindHole;split
 ·exact⟨h.sp.mode,h.sp.tag,h.sp.attr,h.sp.inside,h.sp.run⟩
 ·exact h.sp
theorem Tp.skip(h:Tp K R0 R E0 E r0 r j off len i x0 x p)(hi:i<off+len)(hq:∀R2,K.cl R2 j (i+1) x->K.cl R2 j i x) :
  Tp K R0 R E0 E r0 r j off len (i+1) x0 x p:=by
 have:=h.le;have:=h.lo;exact⟨h.inv,h.cm,h.par,h.sp,h.pre,h.all,h.few,h.lenE,h.up,by omega,by omega,by omega,fun h6=>⟨fun R2 hR hc=>(h.cl h6).1 R2 hR (hq R2 hc),(h.cl h6).2⟩⟩
theorem Tp.sec(h:Tp K R0 R E0 E r0 r j off len i x0 x p)(hq:(qah K.S j)[i]?=some pt)(hk:pt.kind=3\/pt.kind=4)(hm:i<pt.mate)(hl:pt.mate<off+len)(ht:TrP K R R' E E' r r' j (i+1) (pt.mate - (i+1)) x) :
  Tp K R0 R' E0 E' r0 r' j off len (pt.mate+1) x0 x p:=by
 have:=h.le;have:=h.lo;have:=ht.le;have:=h.lenE;have:=ht.lenE;have:=h.pre.length_le;have:=ht.pre.length_le;refine⟨ht.inv,h.cm,h.par,h.sp.le ht.up,h.pre.trans ht.pre,ht.all,ht.few,by omega,yh h.up ht.up,by omega,by omega,by omega,fun h6=>⟨fun R2 hR hc=>?_,fun v hv hn=>?_⟩⟩
 ·have ha:∀u∈R,u∈R':=fun u hu=>ht.pre.subset hu
  exact(h.cl (by omega)).1 R2 (fun u hu=>hR u (ha u hu)) (zho hq hk ((ht.cl h6).1.mono hR) hc)
 ·by_cases q:v∈R
  ·exact((h.cl (by omega)).2 v q hn).mono fun u hu=>ht.pre.subset hu
  ·exact(ht.cl h6).2 v hv q
theorem Tp.visit(h:Tp K R0 R E0 E r0 r j off len i x0 x p)(ht:TrP K (R++[(m,x)]) R' E E' r r' (m+1) 0 (qah K.S (m+1)).length x)(hl:(qah K.S (m+1)).length<=2000) :
  Tp K R0 R' E0 E' r0 r' j off len i x0 x p/\(m,x)∈R':=by
 have:=h.le;have:=h.lo;have:=ht.le;have:=h.lenE;have:=ht.lenE;have:=h.pre.length_le;have hp:=ht.pre.length_le;have Ha:=ht.le;rw[yJ]at hp Ha;simp only[yK,yQ]at hp Ha;have ha:∀u∈R,u∈R':=fun u hu=>ht.pre.subset (List.mem_append_left _ hu);have hm:(m,x)∈R':=ht.pre.subset (List.mem_append_right _ xo);refine⟨⟨ht.inv,h.cm,h.par,h.sp.le ht.up,h.pre.trans ((List.prefix_append _ _).trans ht.pre),ht.all,ht.few,by omega,yh h.up ht.up,by omega,h.lo,h.hi,fun h6=>⟨fun R2 hR hc=>(h.cl (by omega)).1 R2 (fun u hu=>hR u (ha u hu)) hc,fun v hv hn=>?_⟩⟩,hm⟩;by_cases q:v∈R
 ·exact((h.cl (by omega)).2 v q hn).mono ha
 ·by_cases q2:v=(m,x)
  ·rw[q2];exact(ht.cl h6).1
  ·exact(ht.cl h6).2 v hv (fun z=>(yn.1 z).elim q fun z=>q2 (yv.1 z))
theorem Tp.visit0(h:Tp K R0 R E0 E r0 r j off len i x0 x p)(h6:R.length<=256)(h7:¬R.length+1<=256)(hm:m<K.N.length) :
  Tp K R0 (R++[(m,x)]) E0 E r0 r j off len i x0 x p/\(m,x)∈R++[(m,x)]:=by
 have:=h.le;have:=h.pre.length_le;refine⟨⟨qyl h.inv (List.prefix_append _ _),h.cm,h.par,h.sp,h.pre.trans (List.prefix_append _ _),fun u hu=>?_,by rw[yJ];simp;omega,h.lenE,h.up,by rw[yJ];simp;omega,h.lo,h.hi,fun q=>?_⟩,List.mem_append_right _ xo⟩
 ·rcases yn.1 hu with q | q
  ·exact h.all u q
  ·rw[yv.1 q];exact⟨h.cm,hm⟩
 ·rw[yJ]at q
  simp at q;omega
theorem zf8{B:Nat->List It}{y':Sx}(h:Done B m x y)(h':Done B m x y'):y=y':=qwd (q64 h) (q64 h')
theorem Tp.call(h:Tp K R0 R E0 E r0 r j off len i x0 x p)(hq:(qah K.S j)[i]?=some pt)(hi:i<off+len)(hk:pt.kind=6)(hm:qfr K.nm pt.text=some m)(ha:(m,x)∈R)(hd:Done K.bd m x y)(hp:ParX y p')(hc:Cm y)(hv:EInv K.bd R r' E' [])(hs:SpOk r' p')(hl:E.length<=E'.length)(hu:r<=r')(hr:r'<=r+4000000*(E'.length - E.length)+0) :
  Tp K R0 R E0 E' r0 r' j off len (i+1) x0 y p':=by
 have:=h.le;have:=h.lo;have:=h.lenE;exact⟨hv,hc,hp,hs,h.pre,h.all,h.few,by omega,yh h.up hu,by omega,by omega,by omega,fun h6=>⟨fun R2 hR hc=>(h.cl h6).1 R2 hR (zan hq hk hm (hR _ ha) fun y' Ha=>zf8 hd Ha▸hc),(h.cl h6).2⟩⟩
theorem Tp.nodone(h:Tp K R0 R E0 E r0 r j off len i x0 x p)(hq:(qah K.S j)[i]?=some pt)(hi:i<off+len)(hk:pt.kind=6)(hm:qfr K.nm pt.text=some m)(ha:(m,x)∈R)(hd:∀y,¬Done K.bd m x y)(hv:EInv K.bd R r' E' [])(hl:E.length<=E'.length)(hu:r<=r')(hr:r'<=r+4000000*(E'.length - E.length)+0):TrP K R0 R E0 E' r0 r' j off len x0:=by
 have:=h.le;have:=h.lo;have:=h.lenE;exact⟨hv,h.pre,h.all,h.few,by omega,yh h.up hu,by omega,fun h6=>⟨(h.cl h6).1 R (fun _ q=>q) (zan hq hk hm ha fun y hy=>absurd hy (hd y)),(h.cl h6).2⟩⟩
theorem Tp.done(h:Tp K R0 R E0 E r0 r j off len (off+len) x0 x p)(hz:∀q,(qah K.S j)[off+len]?=some q->q.kind=5):TrP K R0 R E0 E r0 r j off len x0:=by
 refine⟨h.inv,h.pre,h.all,h.few,h.lenE,h.up,by have:=h.le;omega,fun h6=>⟨(h.cl h6).1 R (fun _ q=>q) ?_,(h.cl h6).2⟩⟩;cases hq:(qah K.S j)[off+len]? with
 |none=>exact zgh (List.getElem?_eq_none_iff.1 hq)
 |some q=>exact zeg hq (hz q hq)
theorem Tp.wide(h:Tp K R0 R E0 E r0 r j off len i x0 x p)(h7:¬R.length<=256):TrP K R0 R E0 E r0 r j off len x0:=
 ⟨h.inv,h.pre,h.all,h.few,h.lenE,h.up,by have:=h.le;have:=h.hi;have:=h.lo;omega,fun h6=>absurd h6 h7⟩
end
variable{o:Nat}{l:List Pt}{w:World}
theorem za2(h:Wf o l):∀(i:Nat) (p:Pt),l[i]?=some p->(p.kind=3\/p.kind=4)->∀q,l[p.mate - o]?=some q->q.kind=5:=by
 induction h with
 |nil o=>intro i p hp;simp at hp
 |leaf o q l hk hw ih=>
   intro i p hp ha u hu;cases i with
   |zero=>simp at hp;subst hp;omega
   |succ i=>
     have hp:l[i]?=some p:=by simpa using hp
     have:=(qh1 hw i p hp ha).1;rw[show p.mate - o=(p.mate - (o+1))+1 by omega,yT]at hu;exact ih i p hp ha u hu
 |sec o q z b l hq hz h1 h2 hb hl ihb ihl=>
   intro i p hp ha u hu;have e:q::b++z::l=q::(b++z::l):=by simp
   rw[e]at hp hu;cases i with
   |zero=>
     simp only[yS,Option.some.injEq]at hp;subst hp;rw[h1,show o+1+b.length - o=b.length+1 by omega,yT,yt (yg _),xz]at hu;simp at hu;rw[<-hu];exact hz
   |succ i=>
     simp only[yT]at hp;rw[yI]at hp;split at hp
     ·have hm:=qh1 hb i p hp ha
      rw[show p.mate - o=(p.mate - (o+1))+1 by omega,yT,yr (by omega)]at hu;exact ihb i p hp ha u hu
     ·rename_i hi
      cases hx:i - b.length with
      |zero=>rw[hx]at hp;simp at hp;subst hp;omega
      |succ j=>
        rw[hx]at hp;have hp:l[j]?=some p:=by simpa using hp
        have hm:=qh1 hl j p hp ha;rw[show p.mate - o=(p.mate - (o+b.length+2)+1+b.length)+1 by omega,yT,yt (by omega),show p.mate - (o+b.length+2)+1+b.length - b.length=(p.mate - (o+b.length+2))+1 by omega,yT]at hu;exact ihl j p hp ha u hu
theorem zel(h:Wf o l):∀(i:Nat) (p:Pt),l[i]?=some p->(p.kind=3\/p.kind=4)->∀(k:Nat) (q:Pt),i<k->o+k<p.mate->l[k]?=some q->(q.kind=3\/q.kind=4)->q.mate<p.mate:=by
 induction h with
 |nil o=>intro i p hp;simp at hp
 |leaf o q l hk hw ih=>
   intro i p hp Ha k u hk hm hu ha;obtain⟨k,rfl⟩:∃c,k=c+1:=⟨k - 1,by omega⟩;cases i with
   |zero=>simp at hp;subst hp;omega
   |succ i=>exact ih i p (by simpa using hp) Ha k u (by omega) (by omega) (by simpa using hu) ha
 |sec o q z b l hq hz h1 h2 hb hl ihb ihl=>
   intro i p hp Ha k u hk hm hu ha;have e:q::b++z::l=q::(b++z::l):=by simp
   rw[e]at hp hu;obtain⟨k,rfl⟩:∃c,k=c+1:=⟨k - 1,by omega⟩;rw[yT]at hu;cases i with
   |zero=>
     simp only[yS,Option.some.injEq]at hp;subst hp;rw[yr (by omega)]at hu;have:=qh1 hb k u hu ha;omega
   |succ i=>
     simp only[yT]at hp;rw[yI]at hp;split at hp
     ·have:=qh1 hb i p hp Ha
      rw[yr (by omega)]at hu;exact ihb i p hp Ha k u (by omega) (by omega) hu ha
     ·rename_i hi
      cases hx:i - b.length with
      |zero=>rw[hx]at hp;simp at hp;subst hp;omega
      |succ c=>
        rw[hx]at hp;rw[yt (by omega),show k - b.length=(k - b.length - 1)+1 by omega,yT]at hu;exact ihl c p (by simpa using hp) Ha (k - b.length - 1) u (by omega) (by omega) hu ha
theorem zco:(prog.info? 143).map (fun i=>(i.zero,i.size,i.bytes))=some (some (.agg #[zI 0,zI 0,zI 0,zI 0,zI 0,zI 0,zI 0,zI 0,zS,.bool false]),10,88):=by kernel_rfl
theorem q2q{B k n:Nat}{e:TypeId}{v:Value}{xs:List Value}(h:w.ownsRow B e k v n xs):∃ao cap,v=.slice ao n cap/\SlOf v n 0 n (.slice ao n cap):=by
 rcases h.2 with⟨h1,h2⟩|⟨g,cap,cur,hv,_,_,hc,_⟩
 ·exact⟨none,0,by rw[h1,h2],_,_,rfl,by omega,fun q=>by omega⟩
 ·exact⟨_,_,hv,_,_,rfl,hc,fun _=>⟨g,cap,hv,by rw[Nat.zero_mul]⟩⟩
theorem qmf{K:Sk}{w5:World}{gw:Nat}{ve vS:Value}{E E5:List Et}{R R5:List Vt}{F:Ft}{r r5 j off len:Nat}{x:Sx}{p p5:Sp}{ok:Bool}{a:Act}(hB:K.B<=w.heap.size)(hm:Tm K w w5 gw ve vS E5 R5 F p)(ht:TrP K R R5 E E5 r r5 j off len x)(h6:a.tmps.getD 6 undef=zP (w.heap.size+1))(h7:a.tmps.getD 7 undef=.bool ok)(hd:a.defers=[]) :
  bodyPost prog f33 (fun e w'=>TrO K w gw E R r j off len x F e w') .ret a (set6 w5 (w.heap.size+1) (zI p5.mode) (zV p5.tag) (zV p5.attr) (zV p5.inside) (zV p5.run) (zI p5.far)):=by
 have ho:=hm.out hB (zI p5.mode) (zV p5.tag) (zV p5.attr) (zV p5.inside) (zV p5.run) (zI p5.far);refine qbz results33 (w.heap.size+1) _ underlying94 rfl (by kernel_rfl) h6 ⟨_,_,hm.res,rfl⟩ hd _ _ _ _ _ _ _ h7 ?_;exact⟨p5,ok,ve,vS,E5,R5,r5,rfl,ho.1,ho.2,ht⟩
def zhv(S:List Src)(N:List zT)(R:List Vt):Prop:=R.length<=256/\(∀u∈R,Cm u.2/\u.1<N.length)/\Cl (fun n=>its (N.map fun y=>y.data.toList) (qah S (n+1))) (N.map fun y=>y.data.toList) (qah S 0) R 0 Sx.start/\∀v∈R,Cl (fun n=>its (N.map fun y=>y.data.toList) (qah S (n+1))) (N.map fun y=>y.data.toList) (qah S (v.1+1)) R 0 v.2
def zdt(w:World)(T:zT)(L:List (zT×zT))(e:Ending)(w':World):Prop:=
 (∃b:Bool,e=.returned (.bool b)/\(b=false->(tkF T L).1.code=0->∃R,zhv (tkF T L).2 (L.map (·.1)) R)/\(b=true->L≠[]))/\zW w w'
theorem zhz{T:zT}{L:List (zT×zT)}(h:(tkF T L).1.code=0):(L.map (·.1)).length<=6/\(tkF T L).2.length=(L.map (·.1)).length+1/\SrcsOk (tkF T L).2:=by
 unfold tkF at h |-;by_cases hf:qck L=false
 ·rw[if_pos hf]at h;cases h
 rw[if_neg hf]at h |-;have hf:qck L=true:=by simpa using hf
 unfold qck at hf;rw[yL,yN]at hf;have hp:(qau L).map (·.1)=qbq L:=by unfold qau qbq;rw[List.map_map];rfl
 refine⟨by rw[yR];exact hf.1,?_,q0d _ _ (by unfold qau;rw[yR];exact hf.1) (by rw[hp];exact hf.2) h⟩;have:=(Pl.qn0 _ h).1;rw[this];simp[qau]
theorem zek(Hu:zei)(Hv:∀K,SkOk K->∀k,q3y K k)(T:zT)(v:Value)(L:List (zT×zT))(w:World)(hA:qk5 w v L)(ho:∀p∈L,p.1.size<=1000000000) :
  zC 18 #[.string T,v] w fun e w'=>zdt w T L e w':=by
 have hT:=q7j Hu T v L w hA ho;obtain⟨ao,cap,hv,_⟩:=hA;subst hv;have Hg:=@zhz T L;generalize hQ:(fun(e:Ending) (w':World)=>zdt w T L e w')=Q;have HQ:=zH hQ;unfold zdt at HQ;unfold qt1 at hT;generalize tkF T L=Z at hT Hg HQ;obtain⟨⟨c,kd,pl,ps⟩,S⟩:=Z;simp only at hT Hg HQ;unfold qnt bs at hT;have HT:=zH hT;have hw:=zH Hg;clear hT hQ Hg ho;go_enter func18,ntmps18
 go_upto_region 2 with(go_at_call 32;refine xQ HT.out ?_;rintro e w1 ⟨⟨p,rfl,hp⟩,hb⟩;have HP:=zH hp;have HB:=zH hb;clear hp hb;dsimp only)
 have hg:=zH (HB.out.alloc (o:=.cells #[zI c,zI kd,zV pl,zI ps] 31) HB.out.size);have Hi:=qaa (xF w1 (.cells #[zI c,zI kd,zV pl,zI ps] 31)) 0 _ rfl;have HX:=(show Hid _ from(xL w1.heap.size w1).alloc (yg _) (.cells #[zI c,zI kd,zV pl,zI ps] 31));generalize World.alloc w1 _=w2 at hg HX Hi |-;generalize w1.heap.size=FB at Hi |-;by_cases hc:c=0
 rotate_left
 ·have Hy:((c:Int)==0)=false:=yf.2 (by omega)
  have HC:=zH hc;clear hc;go_wp2_with fail
  rw[<-HQ.out];exact⟨⟨false,rfl,fun _ h=>absurd h HC.out,fun h=>nomatch h⟩,hg.out⟩
 subst hc;obtain⟨g,pv,RL,vp,rfl,Ho⟩:=HP.out rfl;obtain⟨Hp,Hq,hi⟩:=hw.out rfl;obtain⟨K,Ha⟩:∃K:Sk,K=⟨w.heap.size,g,S,L.map (·.1),pv,RL,vp⟩:=⟨_,rfl⟩;have hK:SkOk K:=by rw[Ha];exact⟨Hp,Hq,hi⟩
 obtain⟨s0,Hc⟩:∃s0,S[0]?=some s0:=⟨_,yc (by omega)⟩;have He:qah K.S 0=s0.parts:=by rw[Ha];unfold qah;simp only[Hc]
 have Hw:=(hi.parts 0 s0 Hc).1;have hr:=hi.wf 0 s0 Hc;have Hb:K.at_ w2 (zN) []:=by rw[Ha];exact⟨Ho.kept HX.out,World.ownsRow_nil _ _ _ _⟩
 have hj:=(Hb.tp.row 0 s0 (by rw[Ha];exact Hc)).1;rw[(Hb.tp.row 0 s0 (by rw[Ha];exact Hc)).2.len]at hj;obtain⟨ao2,cap2,Hj,Hk⟩:=q2q hj;rw[<-He]at Hk;have hl:K.g=g:=by rw[Ha]
 have Hl:K.B=w.heap.size:=by rw[Ha]
 have hf:Hid (WkAt K (w2.alloc (.cells #[zP K.g,zN,zI 0,zI 0,zS,zI 0] 92)) w2.heap.size (zN) (zN) [] [] ⟨0,0,[],0⟩):=
  ⟨Hb.kept (zB _),xF _ _,by rw[Hl];exact hg.out.size,World.ownsRow_nil _ _ _ _⟩
 have Hf:=(show Hid (zW w (w2.alloc (.cells #[zP K.g,zN,zI 0,zI 0,zS,zI 0] 92)))from hg.out.alloc hg.out.size _);have HN:=zH (fun(W':World) (hW:WkAt K W' w2.heap.size (zN) (zN) [] [] ⟨0,0,[],0⟩)=>Hv K hK 1000000 W' w2.heap.size (zN) (zN) (.slice ao2 (qah K.S 0).length cap2) [] [] 0 0 0 _ Sx.start Sp.start ⟨0,0,[],0⟩ hW Hk (yH _) (by rw[xf];exact yg _) ⟨fun q hq=>(by rw[xf,yd (yg _)]at hq;cases hq),fun i q _ _ h3 h4=>(by rw[He]at h3 |-;have:=qh1 hr i q h3 h4;omega)⟩ ⟨fun e he=>absurd he List.not_mem_nil,List.nodup_nil,fun u hu=>absurd hu List.not_mem_nil⟩ zdi qsy (qnj 0) (fun u hu=>absurd hu List.not_mem_nil) (by simp) (yh hW.le (yj (zL hW.blk))) (by rw[He];simp;omega) (by rw[He];simp;omega));rw[He]at HN;unfold qaz qan at HN;have Hr:=(show Hid (K=⟨w.heap.size,g,S,L.map (·.1),pv,RL,vp⟩)from Ha);have hz:=zH He;rw[hl]at hf Hf;go_upto_region 5 with fail
 generalize w2.heap.size=gw at hf HN |-;generalize World.alloc w2 _=w3 at hf Hf HN |-;have hs:=(zL hf.out.at_.tp.blk);have c0:=(qaa hf.out.at_.tp.blk 0 _ rfl).trans (yE some Hj);have c0':=fun o=>(qaa ((xI w3 o hs).trans hf.out.at_.tp.blk) 0 _ rfl).trans (yE some Hj);rw[hl]at c0 c0';have hm:=(show Hid (zW w3 (w3.alloc (.cells #[zI 1,zS,zS,zS,zS,zI 0] 94)).drew)from(zB _).drew);have Hz:=zH Hc;clear hK He Hw hr Hb hj Hk Ha hl Hp Hq hi Ho Hj hs Hi Hc;go_region_with (first|(go_at_call 34;refine(qln _).mono ?_;rintro e w4 ⟨rfl,rfl⟩)|(go_at_call 33;refine xQ (HN.out _ (hf.out.kept hm.out)) ?_;rintro e w5 ⟨p5,ok5,ve5,vS5,E5,R5,r5,rfl,Hm,Hs,ht⟩;dsimp only))
 all_goals
  obtain⟨aoS,capS,hx⟩:=qaq Hm.seen;subst hx;have s1:=qaa Hm.blk 1 _ rfl;have Ht:=zH Hs.below;have hn:=zH ht;clear Hm Hs ht;have Hn:Hid (R5.length<=256->zhv S (L.map (·.1)) R5):=fun h6=>by
   have h:=hn.out.cl h6;have ha:=hn.out.all;have hk:=Hr.out;subst hk;exact⟨h6,ha,h.1,fun v hv=>h.2 v hv List.not_mem_nil⟩
  have Hx:Hid (¬R5.length<=256->L≠[]):=fun h6 q=>by
   have ha:=hn.out.all;have hk:=Hr.out;subst hk q;cases R5 with
   |nil=>exact h6 (yH _)
   |cons u R=>have:=(ha u xo).2;simp at this
  by_cases h6:R5.length<=256
  ·have hy:¬(R5.length:Int) > 256:=by omega
   go_wp2_with fail
   rw[<-HQ.out];exact⟨⟨false,rfl,fun _ _=>⟨R5,Hn.out h6⟩,fun h=>nomatch h⟩,Hf.out.trans (((Below.mono hm.out Hf.out.size).trans (by rw[<-Hl];exact Ht.out)))⟩
  ·have hy:(R5.length:Int) > 256:=by omega
   go_wp2_with fail
   rw[<-HQ.out];exact⟨⟨true,rfl,(fun h=>nomatch h),fun _=>Hx.out h6⟩,Hf.out.trans (((Below.mono hm.out Hf.out.size).trans (by rw[<-Hl];exact Ht.out)))⟩
section
open Go.Maps
theorem qrj(HB:qhp):zdw:=by
 intro T v L w hA ht hm hR Hi;have h1:=fun w1 (hb:zW w w1)=>zca HB T v L w1 (hA.kept hb) (ht.kept hb) (hm.below hb) hR Hi;have hn:=q8x T L;generalize qc5 T.data.toList (qau L)=q at h1 hn |-;obtain⟨q1,f⟩:=q;simp only at h1 hn |-;have H1:=zH h1;have HN:=zH hn;clear h1 hn hA ht hm hR Hi;have HR:Hid ((w.alloc (.cells #[zI 0,zI 0,zS,zI 0] 31)).heap[w.heap.size]?=zK #[zI 0,zI 0,zS,zI 0] 31):=xF _ _;have he:Hid (zW w (w.alloc (.cells #[zI 0,zI 0,zS,zI 0] 31))):=zB _;go_enter func12,ntmps12
 go_wp2_with fail
 refine(H1.out _ he.out).mono ?_;rintro ed w2 ⟨⟨ao,n,cap,rfl,hx⟩,hb⟩;rw[qi4];have HX:=zH hx;have hg:=(show Hid _ from(hb.block w.heap.size (by simp)).trans HR.out);have He:=zH (he.out.trans (hb.mono he.out.size));clear hx hb HR he H1;have Hb:w.heap.size<w2.heap.size:=(ya.1 hg.out).1;by_cases hc:f.code=0
 rotate_left
 ·have Hk:((f.code:Int) != 0)=true:=by rw[bne_iff_ne];omega
  have HC:=zH hc;clear hc;go_wp2_with fail
  have Ha:((w2.alloc (.cells #[.slice ao n cap] 77)).alloc (.cells #[zI (f.code:Nat),zI f.kind,zV f.place,zI (f.pos:Nat)] 31)).heap[w.heap.size]?=zK #[zI 0,zI 0,zS,zI 0] 31:=(xI _ _ (by simp;omega)).trans ((xI _ _ Hb).trans hg.out);have Hf:((w2.alloc (.cells #[.slice ao n cap] 77)).alloc (.cells #[zI (f.code:Nat),zI f.kind,zV f.place,zI (f.pos:Nat)] 31)).heap[w2.heap.size+1]?=zK #[zI (f.code:Nat),zI f.kind,zV f.place,zI (f.pos:Nat)] 31:=qap _ _ _ (by simp);have hj:=(show Hid _ from(He.out.alloc He.out.size (.cells #[.slice ao n cap] 77)).alloc (by simp;omega) (.cells #[zI (f.code:Nat),zI f.kind,zV f.place,zI (f.pos:Nat)] 31));have e1:w2.heap.size+1≠w.heap.size:=by omega
  generalize w2.heap.size+1=E at Hf e1 |-;generalize World.alloc (World.alloc w2 _) _=w4 at Hf Ha hj |-;have x0:=al (qaa Ha);have y0:w4.frozen? (zO w.heap.size 0)=false:=by simp[World.frozen?,Ha]
  have y1:w4.frozen? (zO w.heap.size 1)=false:=by simp[World.frozen?,Ha]
  have y2:w4.frozen? (zO w.heap.size 2)=false:=by simp[World.frozen?,Ha]
  have y3:w4.frozen? (zO w.heap.size 3)=false:=by simp[World.frozen?,Ha]
  have l0:=al (qaa Hf);have hl:=zH Ha;clear Hf Ha Hb;go_region
  all_goals
   go_wp2_with fail
   have hf:=qhg hl.out (zI (f.code:Nat)) (zI f.kind) (zV f.place) (zI (f.pos:Nat));have hb:=(((hj.out.setCell (p:=zO w.heap.size 0) (yg _) (zI (f.code:Nat))).setCell (p:=zO w.heap.size 1) (yg _) (zI f.kind)).setCell (p:=zO w.heap.size 2) (yg _) (zV f.place)).setCell (p:=zO w.heap.size 3) (yg _) (zI (f.pos:Nat));refine qfb results12 rfl w.heap.size (.pointer none) _ rfl rfl hf _ underlying31 rfl (by kernel_rfl) ?_;exact⟨⟨_,rfl,fun _=>rfl,fun q=>absurd q HC.out⟩,hb.drew⟩
 ·have Hk:((f.code:Int) != 0)=false:=by rw[hc];rfl
  have HC:Hid (f=Ft.none):=HN.out hc;obtain⟨B,F,M,s,h1,h2,h3⟩:=HX.out hc;have Hl:=zH h2;have Hm:=zH h3;have Hn:Hid (w.heap.size<=B):=yh (by simp) h1;have ha:∀o o' o'',(((w2.alloc o).alloc o').alloc o'').heap[w.heap.size]?=zK #[zI 0,zI 0,zS,zI 0] 31:=fun o o' o''=>(xI _ _ (by simp;omega)).trans ((xI _ _ (by simp;omega)).trans ((xI _ _ Hb).trans hg.out));have x0:=fun o o' o''=>al (qaa (ha o o' o''));have y0:∀o o' o'',(((w2.alloc o).alloc o').alloc o'').frozen? (zO w.heap.size 0)=false:=fun o o' o''=>by simp[World.frozen?,ha o o' o'']
  have y1:∀o o' o'',(((w2.alloc o).alloc o').alloc o'').frozen? (zO w.heap.size 1)=false:=fun o o' o''=>by simp[World.frozen?,ha o o' o'']
  have y2:∀o o' o'',(((w2.alloc o).alloc o').alloc o'').frozen? (zO w.heap.size 2)=false:=fun o o' o''=>by simp[World.frozen?,ha o o' o'']
  have y3:∀o o' o'',(((w2.alloc o).alloc o').alloc o'').frozen? (zO w.heap.size 3)=false:=fun o o' o''=>by simp[World.frozen?,ha o o' o'']
  have ho:=zH ha;have Ho:=zH Hb;clear hc h1 h2 h3 HX ha Hb;go_wp2_with fail
  have Hg:=((((xL w2.heap.size w2).alloc (yg _) (.cells #[.slice ao n cap] 77)).alloc (by simp) (.cells #[zI (f.code:Nat),zI f.kind,zV f.place,zI (f.pos:Nat)] 31)).alloc (by simp;omega) (.cells #[.slice ao n cap] 81));have hi:=qap ((w2.alloc (.cells #[.slice ao n cap] 77)).alloc (.cells #[zI (f.code:Nat),zI f.kind,zV f.place,zI (f.pos:Nat)] 31)) (.cells #[.slice ao n cap] 81) (w2.heap.size+1+1) (by simp);have ha:=ho.out (.cells #[.slice ao n cap] 77) (.cells #[zI (f.code:Nat),zI f.kind,zV f.place,zI (f.pos:Nat)] 31) (.cells #[.slice ao n cap] 81);have Hj:=Hl.out.below Hg;have hk:=He.out.trans (Hg.mono He.out.size);have Hc:w2.heap.size+1+1≠w.heap.size:=by have:=Ho.out;omega
  clear Hg x0 y0 y1 y2 y3;generalize w2.heap.size+1+1=G at hi Hc |-;generalize World.alloc (World.alloc (World.alloc w2 _) _) _=w5 at hi ha Hj hk |-;have hf:=qhg ha (zI 0) (zI 0) (zS) (zI 0);have hv:=Hj.fault4 ha (zI 0) (zI 0) (zS) (zI 0);have hb:=(((hk.setCell (p:=zO w.heap.size 0) (yg _) (zI 0)).setCell (p:=zO w.heap.size 1) (yg _) (zI 0)).setCell (p:=zO w.heap.size 2) (yg _) (zS)).setCell (p:=zO w.heap.size 3) (yg _) (zI 0);have ht:((((w5.setCell (zO w.heap.size 0) (zI 0)).setCell (zO w.heap.size 1) (zI 0)).setCell (zO w.heap.size 2) (zS)).setCell (zO w.heap.size 3) (zI 0)).heap[G]?=_:=(xK _ _ _ _ Hc).trans ((xK _ _ _ _ Hc).trans ((xK _ _ _ _ Hc).trans ((xK _ _ _ _ Hc).trans hi)));refine qfb results12 rfl w.heap.size (zP G) _ rfl rfl hf _ underlying31 rfl (by kernel_rfl) ?_;refine⟨⟨_,by rw[HC.out];rfl,fun q=>absurd (by rw[HC.out];rfl) q,fun _=>⟨G,F,.slice ao n cap,M,s,B,rfl,?_,Hn.out,hv,Hm.out⟩⟩,hb⟩;exact ht
end
theorem zh9{S:List Src}{len:Nat}(hS:SrcsOk S)(h:(qew S len).2.code=0)(e:Ev)(he:e.S=S)(hv:e.vis=(qew S len).1):e.Ok/\0<e.vis.length/\e.vis.length<=257/\∀v p,p∈e.parts v->p.text.length<=2000:=by
 obtain⟨s,hk,hs,Hf,u0,hg,_⟩:=zfm (yh hS.few.1 (yg _)) h;have ha:=(qo7 S 258 Sr.zero (0,Sx.start) (qus hS) (by decide)).1;have Hg:s=qev S 258 Sr.zero (0,Sx.start):=Hf;rw[<-Hg]at ha;have hb:e.vis=s.vis:=hv.trans hs.symm;have Hc:s.vis.length<=257:=by
  have h1:=ha.few;have h2:=ha.ends.few;have h3:=ha.vis;omega
 have Hb:∀(v:Nat) (x:Nat×List Int),e.vis[v]?=some x->e.parts v=qah S x.1:=fun v x hx=>by
  unfold Ev.parts qah;rw[hx,he];rfl
 have hc:∀(v:Nat),e.vis[v]?=none->e.parts v=[]:=fun v hx=>by unfold Ev.parts;rw[hx]
 have Ha:∀(v:Nat) (x:Nat×List Int),e.vis[v]?=some x->∃a:Src,S[x.1]?=some a/\qah S x.1=a.parts:=fun v x hx=>by
  rw[hb]at hx;have h1:=(hk.vis v x hx).1;exact⟨S[x.1],yc h1,by unfold qah;rw[yc h1]⟩
 refine⟨⟨fun v x hx=>?_,fun v i p hp He=>?_,fun v i p hp He=>?_,by rw[hb];omega,fun v=>?_⟩,by rw[hb];have:=(yb.1 hg).1;omega,by rw[hb];exact Hc,fun v p hp=>?_⟩
 ·obtain⟨a,h1,h2⟩:=Ha v x hx
  rw[hb]at hx;have h3:=(hk.vis v x hx).2.1;rw[h2]at h3;exact⟨a,by rw[he];exact h1,h3⟩
 ·cases hx:e.vis[v]? with
  |none=>rw[hc v hx]at hp;simp at hp
  |some x=>
    obtain⟨a,h1,h2⟩:=Ha v x hx;rw[Hb v x hx,h2]at hp |-;have:=za1 (hS.wf _ a h1) i p hp He;omega
 ·cases hx:e.vis[v]? with
  |none=>rw[hc v hx]at hp;simp at hp
  |some x=>
    rw[Hb v x hx]at hp;have hf:=hx;rw[hb]at hf;obtain⟨_,h2,h3⟩:=hk.vis v x hf;have hm:e.marks v=x.2:=by unfold Ev.marks;rw[hx]
    have hi:i<x.2.length:=by rw[h2];exact(yb.1 hp).1
    rw[hm,xx,yc hi,hb];exact h3 i p _ hp He (yc hi)
 ·cases hx:e.vis[v]? with
  |none=>rw[hc v hx];simp
  |some x=>
    obtain⟨a,h1,h2⟩:=Ha v x hx;rw[Hb v x hx,h2];have:=(hS.parts _ a h1).1;omega
 ·cases hx:e.vis[v]? with
  |none=>rw[hc v hx]at hp;cases hp
  |some x=>
    obtain⟨a,h1,h2⟩:=Ha v x hx;rw[Hb v x hx,h2]at hp;exact((hS.parts _ a h1).2 p hp).1
theorem qqt(t:zU)(P:List (zU×zU))(h:(qc5 t P).2.code=0)(e:Ev)(he:e.S=(qc5 t P).1.2)(hv:e.vis=(qc5 t P).1.1):e.Ok/\0<e.vis.length/\e.vis.length<=257/\∀v p,p∈e.parts v->p.text.length<=2000:=by
 unfold qc5 at h he hv;split at h
 ·cases h
 ·rename_i q1
  rw[if_neg q1]at he hv;split at h
  ·rename_i q2;exact absurd h q2
  ·rename_i q2
   rw[if_neg q2]at he hv;split at h
   ·rename_i q3;exact absurd h q3
   ·rename_i q3
    rw[if_neg q3]at he hv;have hc:(qa5 (([],t)::P)).1.code=0:=by simpa using q2
    have ha:qhn (P.map (·.1))=true:=by
     cases hx:qhn (P.map (·.1))with
     |true=>rfl
     |false=>exact absurd (.inr hx) q1
    exact zh9 (q0d t P (by have:=fun q=>q1 (.inl q);omega) ha hc) (by simpa using q3) e he hv
section
open Go Go.Lib Go.Shelf
theorem q5w(gT:Nat)(ao:Option Addr)(n cap:Nat)(w:World)(hn:0<n)(h:w.cell? (zO gT 0)=some (.slice ao n cap)):zC 35 #[zP gT] w (zQ (.bool true) w):=by
 have ha:(0:Int)<(n:Int):=by omega
 have Ha:decide ((0:Int)<(n:Int))=true:=by simp;omega
 go_enter func35,ntmps35
 go_wp2
 go_ret
 exact⟨qas (by simp),rfl⟩
def RenC(w0:World)(r:Wt×Int):Ending->World->Prop:=fun ed w'=>∃ha,ed=.returned (.tuple #[bs r.1.out,ha,zI r.2])/\(r.2≠0->ha=zN)/\(r.2=0->w'.ownsRow w0.heap.size 55 3 ha r.1.holes.length (qhd r.1.holes))/\zW w0 w'
theorem qss{w:World}{vv dv:Value}{e:Ev}{M gT:Nat}(hE:Evm w vv dv e M)(ha:0<e.vis.length)(hT:w.cell? (zO gT 0)=some vv)(r:Wt×Int)(hr:e.page=r) :
  zC 19 #[zP gT,dv,zI e.depth,zI e.room] w (RenC w r):=by
 obtain⟨bv,vcap,rfl,_,_⟩:=id hE.vis;obtain⟨da,dcap,rfl,_,_⟩:=id hE.ds;have HP:Hid (zC 36 #[.agg #[zF bv e.vis.length vcap],.slice da e.D.length dcap,zI e.depth,zI e.room] w fun ed w'=>∃ao n cap,ed=.returned (.tuple #[zV r.1.out,.slice ao n cap,zI r.2])/\Hid (RenC w r ed w')):=by
  refine(zb3 hE ha r hr).mono ?_;rintro ed w' ⟨Ha,rfl,h1,h2,h3⟩;have hf:∃ao n cap,Ha=.slice ao n cap:=by
   by_cases hz:r.2=0
   ·rcases(h2 hz).2 with ⟨q,_⟩ | ⟨b,cap,cur,q,_⟩
    ·exact⟨_,_,_,q⟩
    ·exact⟨_,_,_,q⟩
   ·exact⟨_,_,_,h1 hz⟩
  obtain⟨ao,n,cap,rfl⟩:=hf;exact⟨ao,n,cap,rfl,_,rfl,h1,h2,h3⟩
 have HM:=zH (q5w gT (some (zO bv 0)) e.vis.length vcap w ha hT);have hd:=hE.depth;have hb:¬e.depth<0:=by omega
 have Hb:¬ 50<e.depth:=by omega
 clear hE hr;go_enter func19,ntmps19
 go_wp2_with (first
  |(go_at_call 36;refine xQ HP.out ?_;rintro ed w' ⟨ao,n,cap,rfl,HO⟩)
  | (go_at_call 35;refine xQ HM.out ?_;rintro ed w' ⟨rfl,rfl⟩))
 go_ret3
 exact HO.out
end
variable{w w':World}{g:Nat}{vv:Value}{r:List (Nat×List Int)×List Src}
def TplV(w:World)(g:Nat)(vv:Value)(r:List (Nat×List Int)×List Src):Prop:=
 w.cell? (zO g 0)=some vv/\∃bv cap,vv=zF bv r.1.length cap/\bv<w.heap.size/\∀v,v<r.1.length->∃po pcap gm,ViOne w ⟨[],r.2,r.1,0,0⟩ v po pcap gm /\
  w.cell? (zO bv (v*2))=some (.slice po (Ev.parts ⟨[],r.2,r.1,0,0⟩ v).length pcap)/\w.cell? (zO bv (v*2+1))=some (zF gm (Ev.parts ⟨[],r.2,r.1,0,0⟩ v).length (Ev.parts ⟨[],r.2,r.1,0,0⟩ v).length)
theorem TplV.below(h:TplV w g vv r)(hb:zW w w'):TplV w' g vv r:=by
 obtain⟨h1,bv,cap,h2,h3,h4⟩:=h;refine⟨(hb.cell (p:=zO g 0) (qka h1)).trans h1,bv,cap,h2,yi h3 hb.size,fun v hv=>?_⟩;obtain⟨po,pcap,gm,k1,k2,k3⟩:=h4 v hv;refine⟨po,pcap,gm,⟨fun j q hq=>?_,(k1.below hb).2,yi k1.lt hb.size⟩,(hb.cell (p:=zO bv (v*2)) h3).trans k2,(hb.cell (p:=zO bv (v*2+1)) h3).trans k3⟩;obtain⟨b,b1,b2,b3⟩:=k1.part j q hq;exact⟨b,b1,yi b2 hb.size,(hb.cell (p:=zO b j) b2).trans b3⟩
theorem qsf(F:Fix):∀(M:List Nat) (l:List (Nat×List Int)) (v:Nat) (x:Nat×List Int) (g:Nat),l[v]?=some x->M[v]?=some g->(qdw F M l)[v*2]?=some (F.pv x.1)/\(qdw F M l)[v*2+1]?=some (zF g x.2.length x.2.length)
 |[],_,v,x,g,_,h=>by simp at h
 |_::_,[],v,x,g,h,_=>by simp at h
 |m::M,y::l,0,x,g,h1,h2=>by
   simp at h1 h2;subst h1 h2;exact⟨rfl,rfl⟩
 |m::M,y::l,v+1,x,g,h1,h2=>by
   have:=qsf F M l v x g (by simpa using h1) (by simpa using h2);rw[show(v+1)*2=v*2+2 by omega];exact this
theorem q7d{B:Nat}{p:Value}(h:zht w B p r)(hr:0<r.1.length)(hk:Ev.Ok ⟨[],r.2,r.1,0,0⟩):∃g vv,p=zP g/\TplV w g vv r:=by
 obtain⟨g,F,vv,M,s,B',hp,hg,_,hs,hv⟩:=h;have hl:0<s.vis.length:=by rw[hv];exact hr
 obtain⟨bv,cap,He,_,Hi⟩:=qai hs.row hl;refine⟨g,vv,hp,qaa hg 0 vv rfl,bv,cap,by rw[He,hv],Hi,fun v Hf=>?_⟩;obtain⟨x,hx⟩:∃x,r.1[v]?=some x:=⟨_,yc Hf⟩;have Hg:s.vis[v]?=some x:=by rw[hv];exact hx
 have hj:v<M.length:=by rw[hs.len,hv];exact Hf
 obtain⟨gm,hi⟩:∃gm,M[v]?=some gm:=⟨_,yc hj⟩;obtain⟨sr,hc,Hc⟩:=hk.src v x hx;have hc:r.2[x.1]?=some sr:=hc;have ha:Ev.parts ⟨[],r.2,r.1,0,0⟩ v=sr.parts:=by
  unfold Ev.parts;simp only[hx,hc]
 have Hb:Ev.marks ⟨[],r.2,r.1,0,0⟩ v=x.2:=by
  unfold Ev.marks;simp only[hx]
 have hb:=hs.se.src.row x.1 sr hc;obtain⟨po,pcap,Hj⟩:=qaq hb;obtain⟨c1,c2⟩:=qsf F M s.vis v x gm Hg hi;have Ha:=hs.row;rw[He]at Ha;have d1:=qcs Ha _ _ c1;have d2:=qcs Ha _ _ c2;obtain⟨m1,_⟩:=hs.marks v gm x hi Hg;rw[Hj]at d1 hb;rw[Hc]at d2;refine⟨po,pcap,gm,⟨fun j q hq=>?_,fun j m hm=>?_,(ya.1 m1).1⟩,by rw[ha];exact d1,by rw[ha];exact d2⟩
 ·rw[ha]at hq
  have he:0<sr.parts.length:=by
   rcases Nat.eq_zero_or_pos sr.parts.length with hz|hz
   ·rw[yC hz]at hq;simp[qbp]at hq
   ·exact hz
  obtain⟨b,cap',hf,_,Hk⟩:=qai hb he;injection hf with e1 _ _;subst e1;exact⟨b,rfl,Hk,qcs hb j q hq⟩
 ·rw[Hb]at hm
  refine qaa m1 j _ ?_;show(qe2 x.2)[j]?=_;unfold qe2;rw[yz,hm];rfl
structure KW(w:World):Prop where
 tabs:PTabs w
 ml:qa3 w
 esc:Tabs w
 pow:qzn w
 powB:14<w.heap.size
theorem KW.kept(h:KW w)(hb:zW w w'):KW w':=
 ⟨h.tabs.kept hb,(let ⟨m,hm⟩:=h.ml;⟨m,(hb.cell (qka hm)).trans hm⟩),h.esc.kept hb h.esc.lt,h.pow.below hb h.powB,yi h.powB hb.size⟩
theorem zec{dv:Value}{t:zU}{P:List (zU×zU)}(hk:KW w)(hc:(qc5 t P).2.code=0)(hV:TplV w g vv (qc5 t P).1)(D:List Dt)(depth room:Int)(hD:DsAt w.heap.size w dv D)(hn:∀d∈D,-9223372036854775808<=d.n/\d.n<=9223372036854775807)
  (hr:room<=9223372036854775807) (hd:0<=depth/\depth<=50) (hs:∀p,(qc7 (qbe D p)).length<=4000000) (M:Nat) (hM:5001*M<=140737488355328) (ha:Ev.Small ⟨D,(qc5 t P).1.2,(qc5 t P).1.1,depth,room⟩ M) :
  Evm w vv dv ⟨D,(qc5 t P).1.2,(qc5 t P).1.1,depth,room⟩ M/\0<(qc5 t P).1.1.length:=by
 obtain⟨h1,h2,h3,h4⟩:=qqt t P hc ⟨D,(qc5 t P).1.2,(qc5 t P).1.1,depth,room⟩ rfl rfl;obtain⟨_,bv,cap,k1,k2,k3⟩:=hV;refine⟨⟨h1,ha,hM,hD,hn,hk.pow,hk.powB,hk.ml,hk.esc,hr,hd,fun p=>yh (hs p) (by omega),fun v p hp=>yh (h4 v p hp) (by omega),bv,cap,k1,k2,fun v hv=>?_⟩,h2⟩;obtain⟨po,pcap,gm,q1,q2,q3⟩:=k3 v hv;exact⟨po,pcap,gm,⟨q1.part,q1.mark,q1.lt⟩,q2,q3⟩
end Go.Proofs.YtfkhljmiehdgmaaGreatDoor
