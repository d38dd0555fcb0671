/-
  Steps of the proof.
-/
import Derived.Test.YtfkhljmiehdgmaaGreatDoorCuBS
import Derived.Test.YtfkhljmiehdgmaaGreatDoorCuBQ
import Derived.Test.YtfkhljmiehdgmaaGreatDoorCuBJ
import Derived.Test.YtfkhljmiehdgmaaGreatDoorCuBA
set_option maxRecDepth 100000
set_option maxHeartbeats 40000000
namespace Go.Proofs.YtfkhljmiehdgmaaGreatDoor
open Go.RowKit Go.Proofs.Tryz Pl
variable{m:Nat}{y:Sx}
structure Cw(B:Nat)(w w':World):Prop where
 below:Below B w w'
 keep:∀(k:Nat) (cs:Array Value) (t:TypeId) (fz:Nat×Nat),w.heap[k]?=some (.cells cs t fz)->(t≠201/\t≠101)/\t≠92/\t≠143->w'.heap[k]?=w.heap[k]?
structure WkAt(K:Sk)(w:World)(gw:Nat)(ve vS:Value)(E:List Et)(R:List Vt)(F:Ft):Prop where
 at_:K.at_ w ve E
 blk:w.heap[gw]?=zK #[zP K.g,vS,zI F.code,zI F.kind,bs F.place,zI F.pos] 92
 le:K.B<=gw
 seen:w.ownsRow K.B 143 10 vS R.length (qcv R)
structure Tm(K:Sk)(w0 wr:World)(gw:Nat)(ve vS:Value)(E:List Et)(R:List Vt)(F:Ft)(p':Sp):Prop where
 spot:wr.heap[w0.heap.size]?=zK (qan p') 94
 res:wr.heap[w0.heap.size+1]?=zK #[zI 0,zS,zS,zS,zS,zI 0] 94
 wk:WkAt K wr gw ve vS E R F
 ck:Cw K.B w0 wr
def SlOf(pj:Value)(L off len:Nat)(v:Value):Prop:=∃ao cap,v=.slice ao len cap/\len<=cap/\(0<len->∃g cap0,pj=zF g L cap0/\ao=some (zO g (off*6)))
abbrev Sk.cl(K:Sk)(R:List Vt)(j i:Nat)(x:Sx):Prop:=Cl K.bd K.nm (qah K.S j) R i x
structure TrP(K:Sk)(R0 R:List Vt)(E0 E:List Et)(r0 r j off len:Nat)(x0:Sx):Prop where
 inv:EInv K.bd R r E []
 pre:R0 <+: R
 all:∀u∈R,Cm u.2/\u.1<K.N.length
 few:R.length<=257
 lenE:E0.length<=E.length
 up:r0<=r
 le:r<=r0+4000000*(E.length - E0.length)+4000000*(R.length - R0.length)+2000*len
 cl:R.length<=256->K.cl R j off x0/\∀v∈R,v∉R0->K.cl R (v.1+1) 0 v.2
def TrO(K:Sk)(w:World)(gw:Nat)(E:List Et)(R:List Vt)(r j off len:Nat)(x:Sx)(F:Ft)(e:Ending)(w':World):Prop:=
 ∃p' ok ve' vS' E' R' r',e=.returned (.tuple #[qaz p',.bool ok])/\WkAt K w' gw ve' vS' E' R' F/\Cw K.B w w'/\TrP K R R' E E' r r' j off len x
def q3y(K:Sk)(k:Nat):Prop:=∀(w:World) (gw:Nat) (ve vS v:Value) (E:List Et) (R:List Vt) (r j off len:Nat) (x:Sx) (p:Sp) (F:Ft),
 WkAt K w gw ve vS E R F->SlOf (K.pv j) (qah K.S j).length off len v->j<=K.N.length->off+len<=(qah K.S j).length->((∀q,(qah K.S j)[off+len]?=some q->q.kind=5)/\∀(i:Nat) (q:Pt),off<=i->i<off+len->(qah K.S j)[i]?=some q->(q.kind=3\/q.kind=4)->q.mate<off+len) ->
 EInv K.bd R r E []->Cm x->ParX x p->SpOk r p->(∀u∈R,Cm u.2/\u.1<K.N.length)->R.length<=256->K.B<=w.heap.size ->
 (257 - R.length)*3000+len<=k->r+4000000*(429926418001 - E.length)+4000000*(257 - R.length)+2000*len<=1900000000000000000 ->
 zC 33 #[zP gw,v,qaz p] w fun e w'=>TrO K w gw E R r j off len x F e w'
structure Tp(K:Sk)(R0 R:List Vt)(E0 E:List Et)(r0 r j off len i:Nat)(x0 x:Sx)(p:Sp):Prop where
 inv:EInv K.bd R r E []
 cm:Cm x
 par:ParX x p
 sp:SpOk r p
 pre:R0 <+: R
 all:∀u∈R,Cm u.2/\u.1<K.N.length
 few:R.length<=257
 lenE:E0.length<=E.length
 up:r0<=r
 le:r<=r0+4000000*(E.length - E0.length)+4000000*(R.length - R0.length)+2000*(i - off)
 lo:off<=i
 hi:i<=off+len
 cl:R.length<=256->(∀R2,(∀u∈R,u∈R2)->K.cl R2 j i x->K.cl R2 j off x0)/\∀v∈R,v∉R0->K.cl R (v.1+1) 0 v.2
section
variable {K:Sk}{w0 wr w1 w w':World}{gw:Nat}{ve vS ve' vS':Value}{E E' E0:List Et}{R R' R0:List Vt}{F:Ft}{p p':Sp}{r r' r0 j off len i:Nat}{x x' x0:Sx}{B:Nat}{pt:Pt}
theorem Cw.refl(B:Nat)(w:World):Cw B w w:=⟨xL _ _,fun _ _ _ _ _ _=>rfl⟩
theorem Cw.trans{a b c:World}(h:Cw B a b)(k:Cw B b c):Cw B a c:=
 ⟨h.below.trans k.below,fun i cs t fz y z=>(k.keep i cs t fz ((h.keep i cs t fz y z).trans y) z).trans (h.keep i cs t fz y z)⟩
theorem Cw.of_below(h:zW w w')(y:B<=w.heap.size):Cw B w w':=⟨h.mono y,fun k _ _ _ z _=>h.block k (ya.1 z).1⟩
theorem Cw.of_ck(h:Ck B w w'):Cw B w w':=⟨h.below,fun k cs t fz y z=>h.keep k cs t fz y z.1.1 z.1.2⟩
theorem WkAt.kept(h:WkAt K w gw ve vS E R F)(y:zW w w'):WkAt K w' gw ve vS E R F:=
 ⟨h.at_.kept y,(y.block _ (zL h.blk)).trans h.blk,h.le,qab h.seen fun q z=>y.block q (h.seen.lt q z).2⟩
theorem WkAt.ended(h:WkAt K w gw ve vS E R F)(y:Ck K.B w w')(z:K.at_ w' ve' E'):WkAt K w' gw ve' vS E' R F:=by
 refine⟨z,(y.keep _ _ _ _ h.blk (by decide) (by decide)).trans h.blk,h.le,qab h.seen fun q D=>?_⟩;obtain⟨cur,I⟩:=qac h.seen q D;exact y.keep _ _ _ _ I (by decide) (by decide)
theorem WkAt.set(h:WkAt K w gw ve vS E R F){g:Nat}{cs:Array Value}{fz:Nat×Nat}(D:w.heap[g]?=some (.cells cs 94 fz))(v0 v1 v2 v3 v4 v5:Value):WkAt K (set6 w g v0 v1 v2 v3 v4 v5) gw ve vS E R F:=by
 have z:∀(k:Nat) (cs:Array Value) (t:TypeId) (fz:Nat×Nat),w.heap[k]?=some (.cells cs t fz)->t≠94->(set6 w g v0 v1 v2 v3 v4 v5).heap[k]?=w.heap[k]?:=fun k cs t fz I J=>qc0 (qae I D J) _ _ _ _ _ _;have y:∀(e:TypeId) (sz n:Nat) (v:Value) (xs:List Value),w.ownsRow K.B e sz v n xs->e≠94->(set6 w g v0 v1 v2 v3 v4 v5).ownsRow K.B e sz v n xs:=fun e sz n v xs O T=>qab O fun k I=>by
  obtain⟨cur,U⟩:=qac O k I;exact z _ _ _ _ U T
 exact⟨⟨⟨(z _ _ _ _ h.at_.tp.blk (by decide)).trans h.at_.tp.blk,h.at_.tp.le,y _ _ _ _ _ h.at_.tp.parts (by decide),fun i s V=>⟨y _ _ _ _ _ (h.at_.tp.row i s V).1 (by decide),(h.at_.tp.row i s V).2⟩⟩,y _ _ _ _ _ h.at_.ends (by decide)⟩,(z _ _ _ _ h.blk (by decide)).trans h.blk,h.le,y _ _ _ _ _ h.seen (by decide)⟩
theorem Cw.set(h:Cw B w0 w){g:Nat}(y:w0.heap.size<=g)(z:B<=g)(v0 v1 v2 v3 v4 v5:Value):Cw B w0 (set6 w g v0 v1 v2 v3 v4 v5):=
 ⟨qb9 h.below z _ _ _ _ _ _,fun k cs t fz D I=>(qc0 (by have:=(ya.1 D).1;omega) _ _ _ _ _ _).trans (h.keep k cs t fz D I)⟩
theorem Tm.lt(h:Tm K w0 wr gw ve vS E R F p):w0.heap.size+1<wr.heap.size:=(zL h.res)
theorem Tm.kept(h:Tm K w0 wr gw ve vS E R F p)(y:zW wr w')(z:K.B<=w0.heap.size):Tm K w0 w' gw ve vS E R F p:=by
 have D:=h.lt;exact⟨(y.block _ (by omega)).trans h.spot,(y.block _ D).trans h.res,h.wk.kept y,h.ck.trans (Cw.of_below y (by omega))⟩
theorem Tm.drew(h:Tm K w0 wr gw ve vS E R F p):Tm K w0 wr.drew gw ve vS E R F p:=
 ⟨h.spot,h.res,⟨⟨h.wk.at_.tp.drew,qab h.wk.at_.ends fun _ _=>rfl⟩,h.wk.blk,h.wk.le,qab h.wk.seen fun _ _=>rfl⟩,h.ck.below.drew,h.ck.keep⟩
theorem Tm.trod(h:Tm K w0 wr gw ve vS E R F p)(y:Cw K.B wr w')(z:WkAt K w' gw ve' vS' E' R' F):Tm K w0 w' gw ve' vS' E' R' F p:=
 ⟨(y.keep _ _ _ _ h.spot (by decide)).trans h.spot,(y.keep _ _ _ _ h.res (by decide)).trans h.res,z,h.ck.trans y⟩
theorem Tm.ended(h:Tm K w0 wr gw ve vS E R F p)(y:Ck K.B wr w')(z:K.at_ w' ve' E'):Tm K w0 w' gw ve' vS E' R F p:=h.trod (Cw.of_ck y) (h.wk.ended y z)
theorem Tm.set(h:Tm K w0 wr gw ve vS E R F p)(y:K.B<=w0.heap.size)(q:Sp):Tm K w0 (set6 wr w0.heap.size (zI q.mode) (.string ⟨q.tag.toArray⟩) (.string ⟨q.attr.toArray⟩) (.string ⟨q.inside.toArray⟩) (.string ⟨q.run.toArray⟩) (zI q.far)) gw ve vS E R F q:=
 ⟨qmz h.spot _ _ _ _ _ _,(qc0 (by omega) _ _ _ _ _ _).trans h.res,h.wk.set h.spot _ _ _ _ _ _,h.ck.set (yg _) y _ _ _ _ _ _⟩
theorem Tm.setFar(h:Tm K w0 wr gw ve vS E R F p)(z:K.B<=w0.heap.size){g:Nat}{cs:Array Value}{fz:Nat×Nat}(D:wr.heap[g]?=some (.cells cs 94 fz))(y:w0.heap.size+1<g)(v0 v1 v2 v3 v4 v5:Value):Tm K w0 (set6 wr g v0 v1 v2 v3 v4 v5) gw ve vS E R F p:=
 ⟨(qc0 (by omega) _ _ _ _ _ _).trans h.spot,(qc0 (by omega) _ _ _ _ _ _).trans h.res,h.wk.set D _ _ _ _ _ _,h.ck.set (by omega) (by omega) _ _ _ _ _ _⟩
theorem Tm.out(h:Tm K w0 wr gw ve vS E R F p)(y:K.B<=w0.heap.size)(v0 v1 v2 v3 v4 v5:Value):WkAt K (set6 wr (w0.heap.size+1) v0 v1 v2 v3 v4 v5) gw ve vS E R F/\Cw K.B w0 (set6 wr (w0.heap.size+1) v0 v1 v2 v3 v4 v5):=
 ⟨h.wk.set h.res _ _ _ _ _ _,h.ck.set (by omega) (by omega) _ _ _ _ _ _⟩
theorem WkAt.apart(h:WkAt K w gw ve vS E R F)(D:zW w w1)(z:w1.grownBy w' vS.ownBlock){k:Nat}{cs:Array Value}{t:TypeId}{fz:Nat×Nat}(I:w.heap[k]?=some (.cells cs t fz))(J:t≠143):w'.heap[k]?=w.heap[k]?:=by
 have y:=(ya.1 I).1;refine(z.block k (yi y D.size) (fun e=>?_)).trans (D.block k y);obtain⟨cur,O⟩:=qac h.seen k e.symm;exact qae I O J rfl
theorem WkAt.ahead(h:WkAt K w gw ve vS E R F)(z:zW w w1)(y:w1.grownBy w' vS.ownBlock):w'.cell? (zO gw 1)=some vS/\w'.frozen? (zO gw 1)=false:=by
 have D:=(h.apart z y h.blk (by decide)).trans h.blk;exact⟨qaa D 1 _ rfl,xH _ _ 1 _ _ D⟩
theorem Tm.more(h:Tm K w0 wr gw ve vS E R F p)(Z:K.B<=w0.heap.size)(hb:zW wr w1)(u:Vt)(J:w'.ownsRow K.B 143 10 vS' (R.length+1) (qcv R++(qcj u.1 u.2.view).toList))(O:w1.grownBy w' vS.ownBlock)(T:vS'.ownBlock=vS.ownBlock\/vS'.ownBlock=some w1.heap.size) :
  Tm K w0 (w'.setCell (zO gw 1) vS') gw ve vS' E (R++[u]) F p:=by
 have hg:=(h.wk.apart hb O h.wk.blk (by decide)).trans h.wk.blk;have V:=(zL h.wk.blk);have X:=hb.size;have Y:=h.lt;have U:vS'.ownBlock≠some gw:=by
  intro q;rcases T with z|z
  ·rw[q]at z
   obtain⟨cur,hc⟩:=qac h.wk.seen gw z.symm;exact qae h.wk.blk hc (by decide) rfl
  ·rw[q]at z
   injection z with z;omega
 have I:∀k,k≠gw->(w'.setCell (zO gw 1) vS').heap[k]?=w'.heap[k]?:=fun k hk=>xK _ _ _ _ hk;have y:∀(k:Nat) (cs:Array Value) (t:TypeId) (fz:Nat×Nat),wr.heap[k]?=some (.cells cs t fz)->t≠143->t≠92->(w'.setCell (zO gw 1) vS').heap[k]?=wr.heap[k]?:=fun k cs t fz hk h1 h2=>(I k (qae hk h.wk.blk h2)).trans (h.wk.apart hb O hk h1);have D:∀(t:TypeId) (sz n:Nat) (v:Value) (xs:List Value),wr.ownsRow K.B t sz v n xs->t≠143->t≠92->(w'.setCell (zO gw 1) vS').ownsRow K.B t sz v n xs:=fun t sz n v xs hv h1 h2=>qab hv fun k hk=>by
  obtain⟨cur,hc⟩:=qac hv k hk;exact y _ _ _ _ hc h1 h2
 have a:=h.wk.at_;refine⟨(y _ _ _ _ h.spot (by decide) (by decide)).trans h.spot,(y _ _ _ _ h.res (by decide) (by decide)).trans h.res,⟨⟨⟨(y _ _ _ _ a.tp.blk (by decide) (by decide)).trans a.tp.blk,a.tp.le,D _ _ _ _ _ a.tp.parts (by decide) (by decide),fun i s hs=>⟨D _ _ _ _ _ (a.tp.row i s hs).1 (by decide) (by decide),(a.tp.row i s hs).2⟩⟩,D _ _ _ _ _ a.ends (by decide) (by decide)⟩,xG w' gw 1 _ _ _ hg,h.wk.le,?_⟩,?_,fun k cs t fz hk h1=>?_⟩
 ·rw[yJ,qn6]
  exact qab J fun k hk=>I k (fun e=>U (by rw[<-e];exact hk))
 ·exact((h.ck.below.trans (hb.mono (by omega))).grown O (by omega) (fun q hq=>(World.ownsRow.lt h.wk.seen q hq).1)).setCell h.wk.le _
 ·have:=h.ck.keep k cs t fz hk h1
  exact(y k cs t fz (this.trans hk) h1.2.2 h1.2.1).trans this
theorem qyl{W:List Vt}(h:EInv K.bd R r E W)(y:R <+: R'):EInv K.bd R' r E W:=⟨fun e z=>⟨(h.each e z).cm,q3b (h.each e z).ins y,(h.each e z).sp,(h.each e z).yes,(h.each e z).no⟩,h.apart,fun u D=>⟨q3b (h.wins u D).1 y,(h.wins u D).2⟩⟩
theorem Tp.text(h:Tp K R0 R E0 E r0 r j off len i x0 x p)(y:(qah K.S j)[i]?=some pt)(z:i<off+len)(D:pt.kind=1)(I:pt.text.length<=2000) :
  Tp K R0 R E0 E r0 (r+pt.text.length) j off len (i+1) x0 (qax x pt.text) (qei p pt.text):=by
 have:=h.le;have:=h.lo;exact⟨q94 h.inv (by omega),zaj _ _ h.cm,qx6 _ _ _ h.cm.fit.fit.ok h.par,spFromOk _ _ _ h.sp,h.pre,h.all,h.few,h.lenE,by have:=h.up;omega,by omega,by omega,by omega,fun J=>⟨fun R2 O T=>(h.cl J).1 R2 O (zgg y D T),(h.cl J).2⟩⟩
theorem Tp.hole(h:Tp K R0 R E0 E r0 r j off len i x0 x p)(y:(qah K.S j)[i]?=some pt)(z:i<off+len)(D:pt.kind=2) :
  Tp K R0 R E0 E r0 r j off len (i+1) x0 x.behindHole p.behindHole:=by
 have:=h.le;have:=h.lo;refine⟨h.inv,zai h.cm,qhl _ _ h.cm.fit.fit.ok h.par,?_,h.pre,h.all,h.few,h.lenE,h.up,by omega,by omega,by omega,fun I=>⟨fun R2 J O=>(h.cl I).1 R2 J (zgj y D O),(h.cl I).2⟩⟩;unfold Sp.behindHole;split
 ·exact⟨h.sp.mode,h.sp.tag,h.sp.attr,h.sp.inside,h.sp.run⟩
 ·exact h.sp
theorem Tp.skip(h:Tp K R0 R E0 E r0 r j off len i x0 x p)(y:i<off+len)(z:∀R2,K.cl R2 j (i+1) x->K.cl R2 j i x) :
  Tp K R0 R E0 E r0 r j off len (i+1) x0 x p:=by
 have:=h.le;have:=h.lo;exact⟨h.inv,h.cm,h.par,h.sp,h.pre,h.all,h.few,h.lenE,h.up,by omega,by omega,by omega,fun D=>⟨fun R2 I J=>(h.cl D).1 R2 I (z R2 J),(h.cl D).2⟩⟩
theorem Tp.sec(h:Tp K R0 R E0 E r0 r j off len i x0 x p)(z:(qah K.S j)[i]?=some pt)(D:pt.kind=3\/pt.kind=4)(I:i<pt.mate)(J:pt.mate<off+len)(O:TrP K R R' E E' r r' j (i+1) (pt.mate - (i+1)) x) :
  Tp K R0 R' E0 E' r0 r' j off len (pt.mate+1) x0 x p:=by
 have:=h.le;have:=h.lo;have:=O.le;have:=h.lenE;have:=O.lenE;have:=h.pre.length_le;have:=O.pre.length_le;refine⟨O.inv,h.cm,h.par,h.sp.le O.up,h.pre.trans O.pre,O.all,O.few,by omega,yh h.up O.up,by omega,by omega,by omega,fun T=>⟨fun R2 U V=>?_,fun v X Y=>?_⟩⟩
 ·have y:∀u∈R,u∈R':=fun u Z=>O.pre.subset Z
  exact(h.cl (by omega)).1 R2 (fun u Z=>U u (y u Z)) (zho z D ((O.cl T).1.mono U) V)
 ·by_cases q:v∈R
  ·exact((h.cl (by omega)).2 v q Y).mono fun u Z=>O.pre.subset Z
  ·exact(O.cl T).2 v X q
theorem Tp.visit(h:Tp K R0 R E0 E r0 r j off len i x0 x p)(I:TrP K (R++[(m,x)]) R' E E' r r' (m+1) 0 (qah K.S (m+1)).length x)(J:(qah K.S (m+1)).length<=2000) :
  Tp K R0 R' E0 E' r0 r' j off len i x0 x p/\(m,x)∈R':=by
 have:=h.le;have:=h.lo;have:=I.le;have:=h.lenE;have:=I.lenE;have:=h.pre.length_le;have O:=I.pre.length_le;have D:=I.le;rw[yJ]at O D;simp only[yK,yQ]at O D;have y:∀u∈R,u∈R':=fun u T=>I.pre.subset (List.mem_append_left _ T);have U:(m,x)∈R':=I.pre.subset (List.mem_append_right _ xo);refine⟨⟨I.inv,h.cm,h.par,h.sp.le I.up,h.pre.trans ((List.prefix_append _ _).trans I.pre),I.all,I.few,by omega,yh h.up I.up,by omega,h.lo,h.hi,fun V=>⟨fun R2 X Y=>(h.cl (by omega)).1 R2 (fun u T=>X u (y u T)) Y,fun v Z hn=>?_⟩⟩,U⟩;by_cases q:v∈R
 ·exact((h.cl (by omega)).2 v q hn).mono y
 ·by_cases q2:v=(m,x)
  ·rw[q2];exact(I.cl V).1
  ·exact(I.cl V).2 v Z (fun z=>(yn.1 z).elim q fun z=>q2 (yv.1 z))
theorem Tp.visit0(h:Tp K R0 R E0 E r0 r j off len i x0 x p)(y:R.length<=256)(z:¬R.length+1<=256)(D:m<K.N.length) :
  Tp K R0 (R++[(m,x)]) E0 E r0 r j off len i x0 x p/\(m,x)∈R++[(m,x)]:=by
 have:=h.le;have:=h.pre.length_le;refine⟨⟨qyl h.inv (List.prefix_append _ _),h.cm,h.par,h.sp,h.pre.trans (List.prefix_append _ _),fun u I=>?_,by rw[yJ];simp;omega,h.lenE,h.up,by rw[yJ];simp;omega,h.lo,h.hi,fun q=>?_⟩,List.mem_append_right _ xo⟩
 ·rcases yn.1 I with q | q
  ·exact h.all u q
  ·rw[yv.1 q];exact⟨h.cm,D⟩
 ·rw[yJ]at q
  simp at q;omega
theorem zf8{B:Nat->List It}{y':Sx}(h:Done B m x y)(z:Done B m x y'):y=y':=qwd (q64 h) (q64 z)
theorem Tp.call(h:Tp K R0 R E0 E r0 r j off len i x0 x p)(I:(qah K.S j)[i]?=some pt)(J:i<off+len)(O:pt.kind=6)(T:qfr K.nm pt.text=some m)(z:(m,x)∈R)(hd:Done K.bd m x y)(U:ParX y p')(V:Cm y)(X:EInv K.bd R r' E' [])(Y:SpOk r' p')(Z:E.length<=E'.length)(hu:r<=r')(hr:r'<=r+4000000*(E'.length - E.length)+0) :
  Tp K R0 R E0 E' r0 r' j off len (i+1) x0 y p':=by
 have:=h.le;have:=h.lo;have:=h.lenE;exact⟨X,V,U,Y,h.pre,h.all,h.few,by omega,yh h.up hu,by omega,by omega,by omega,fun h6=>⟨fun R2 hR V=>(h.cl h6).1 R2 hR (zan I O T (hR _ z) fun y' D=>zf8 hd D▸V),(h.cl h6).2⟩⟩
theorem Tp.nodone(h:Tp K R0 R E0 E r0 r j off len i x0 x p)(D:(qah K.S j)[i]?=some pt)(I:i<off+len)(J:pt.kind=6)(O:qfr K.nm pt.text=some m)(z:(m,x)∈R)(hd:∀y,¬Done K.bd m x y)(T:EInv K.bd R r' E' [])(U:E.length<=E'.length)(V:r<=r')(X:r'<=r+4000000*(E'.length - E.length)+0):TrP K R0 R E0 E' r0 r' j off len x0:=by
 have:=h.le;have:=h.lo;have:=h.lenE;exact⟨T,h.pre,h.all,h.few,by omega,yh h.up V,by omega,fun Y=>⟨(h.cl Y).1 R (fun _ q=>q) (zan D J O z fun y Z=>absurd Z (hd y)),(h.cl Y).2⟩⟩
theorem Tp.done(h:Tp K R0 R E0 E r0 r j off len (off+len) x0 x p)(y:∀q,(qah K.S j)[off+len]?=some q->q.kind=5):TrP K R0 R E0 E r0 r j off len x0:=by
 refine⟨h.inv,h.pre,h.all,h.few,h.lenE,h.up,by have:=h.le;omega,fun z=>⟨(h.cl z).1 R (fun _ q=>q) ?_,(h.cl z).2⟩⟩;cases D:(qah K.S j)[off+len]? with
 |none=>exact zgh (List.getElem?_eq_none_iff.1 D)
 |some q=>exact zeg D (y q D)
theorem Tp.wide(h:Tp K R0 R E0 E r0 r j off len i x0 x p)(y:¬R.length<=256):TrP K R0 R E0 E r0 r j off len x0:=
 ⟨h.inv,h.pre,h.all,h.few,h.lenE,h.up,by have:=h.le;have:=h.hi;have:=h.lo;omega,fun z=>absurd z y⟩
end
variable{o:Nat}{l:List Pt}{w:World}
theorem za2(h:Wf o l):∀(i:Nat) (p:Pt),l[i]?=some p->(p.kind=3\/p.kind=4)->∀q,l[p.mate - o]?=some q->q.kind=5:=by
 induction h with
 |nil o=>intro i p D;simp at D
 |leaf o q l hk hw ih=>
   intro i p D y u I;cases i with
   |zero=>simp at D;subst D;omega
   |succ i=>
     have D:l[i]?=some p:=by simpa using D
     have:=(qh1 hw i p D y).1;rw[show p.mate - o=(p.mate - (o+1))+1 by omega,yT]at I;exact ih i p D y u I
 |sec o q z b l hq hz h1 h2 hb hl ihb ihl=>
   intro i p D y u I;have e:q::b++z::l=q::(b++z::l):=by simp
   rw[e]at D I;cases i with
   |zero=>
     simp only[yS,Option.some.injEq]at D;subst D;rw[h1,show o+1+b.length - o=b.length+1 by omega,yT,yt (yg _),xz]at I;simp at I;rw[<-I];exact hz
   |succ i=>
     simp only[yT]at D;rw[yI]at D;split at D
     ·have J:=qh1 hb i p D y
      rw[show p.mate - o=(p.mate - (o+1))+1 by omega,yT,yr (by omega)]at I;exact ihb i p D y u I
     ·rename_i O
      cases T:i - b.length with
      |zero=>rw[T]at D;simp at D;subst D;omega
      |succ j=>
        rw[T]at D;have D:l[j]?=some p:=by simpa using D
        have J:=qh1 hl j p D y;rw[show p.mate - o=(p.mate - (o+b.length+2)+1+b.length)+1 by omega,yT,yt (by omega),show p.mate - (o+b.length+2)+1+b.length - b.length=(p.mate - (o+b.length+2))+1 by omega,yT]at I;exact ihl j p D y u I
theorem zel(h:Wf o l):∀(i:Nat) (p:Pt),l[i]?=some p->(p.kind=3\/p.kind=4)->∀(k:Nat) (q:Pt),i<k->o+k<p.mate->l[k]?=some q->(q.kind=3\/q.kind=4)->q.mate<p.mate:=by
 induction h with
 |nil o=>intro i p I;simp at I
 |leaf o q l hk hw ih=>
   intro i p I D k u hk J O y;obtain⟨k,rfl⟩:∃c,k=c+1:=⟨k - 1,by omega⟩;cases i with
   |zero=>simp at I;subst I;omega
   |succ i=>exact ih i p (by simpa using I) D k u (by omega) (by omega) (by simpa using O) y
 |sec o q z b l hq hz h1 h2 hb hl ihb ihl=>
   intro i p I D k u hk J O y;have e:q::b++z::l=q::(b++z::l):=by simp
   rw[e]at I O;obtain⟨k,rfl⟩:∃c,k=c+1:=⟨k - 1,by omega⟩;rw[yT]at O;cases i with
   |zero=>
     simp only[yS,Option.some.injEq]at I;subst I;rw[yr (by omega)]at O;have:=qh1 hb k u O y;omega
   |succ i=>
     simp only[yT]at I;rw[yI]at I;split at I
     ·have:=qh1 hb i p I D
      rw[yr (by omega)]at O;exact ihb i p I D k u (by omega) (by omega) O y
     ·rename_i T
      cases U:i - b.length with
      |zero=>rw[U]at I;simp at I;subst I;omega
      |succ c=>
        rw[U]at I;rw[yt (by omega),show k - b.length=(k - b.length - 1)+1 by omega,yT]at O;exact ihl c p (by simpa using I) D (k - b.length - 1) u (by omega) (by omega) O y
theorem zco:(prog.info? 143).map (fun i=>(i.zero,i.size,i.bytes))=some (some (.agg #[zI 0,zI 0,zI 0,zI 0,zI 0,zI 0,zI 0,zI 0,zS,.bool false]),10,88):=by kernel_rfl
theorem q2q{B k n:Nat}{e:TypeId}{v:Value}{xs:List Value}(h:w.ownsRow B e k v n xs):∃ao cap,v=.slice ao n cap/\SlOf v n 0 n (.slice ao n cap):=by
 rcases h.2 with⟨y,z⟩|⟨g,cap,cur,D,_,_,I,_⟩
 ·exact⟨none,0,by rw[y,z],_,_,rfl,by omega,fun q=>by omega⟩
 ·exact⟨_,_,D,_,_,rfl,I,fun _=>⟨g,cap,D,by rw[Nat.zero_mul]⟩⟩
theorem qmf{K:Sk}{w5:World}{gw:Nat}{ve vS:Value}{E E5:List Et}{R R5:List Vt}{F:Ft}{r r5 j off len:Nat}{x:Sx}{p p5:Sp}{ok:Bool}{a:Act}(y:K.B<=w.heap.size)(z:Tm K w w5 gw ve vS E5 R5 F p)(D:TrP K R R5 E E5 r r5 j off len x)(I:a.tmps.getD 6 undef=zP (w.heap.size+1))(J:a.tmps.getD 7 undef=.bool ok)(hd:a.defers=[]) :
  bodyPost prog f33 (fun e w'=>TrO K w gw E R r j off len x F e w') .ret a (set6 w5 (w.heap.size+1) (zI p5.mode) (.string ⟨p5.tag.toArray⟩) (.string ⟨p5.attr.toArray⟩) (.string ⟨p5.inside.toArray⟩) (.string ⟨p5.run.toArray⟩) (zI p5.far)):=by
 have O:=z.out y (zI p5.mode) (.string ⟨p5.tag.toArray⟩) (.string ⟨p5.attr.toArray⟩) (.string ⟨p5.inside.toArray⟩) (.string ⟨p5.run.toArray⟩) (zI p5.far);refine qbz results33 (w.heap.size+1) _ underlying94 rfl (by kernel_rfl) I ⟨_,_,z.res,rfl⟩ hd _ _ _ _ _ _ _ J ?_;exact⟨p5,ok,ve,vS,E5,R5,r5,rfl,O.1,O.2,D⟩
def zhv(S:List Src)(N:List zT)(R:List Vt):Prop:=R.length<=256/\(∀u∈R,Cm u.2/\u.1<N.length)/\Cl (fun n=>its (N.map fun y=>y.data.toList) (qah S (n+1))) (N.map fun y=>y.data.toList) (qah S 0) R 0 Sx.start/\∀v∈R,Cl (fun n=>its (N.map fun y=>y.data.toList) (qah S (n+1))) (N.map fun y=>y.data.toList) (qah S (v.1+1)) R 0 v.2
def zdt(w:World)(T:zT)(L:List (zT×zT))(e:Ending)(w':World):Prop:=
 (∃b:Bool,e=.returned (.bool b)/\(b=false->(tkF T L).1.code=0->∃R,zhv (tkF T L).2 (L.map (·.1)) R)/\(b=true->L≠[]))/\zW w w'
theorem zhz{T:zT}{L:List (zT×zT)}(h:(tkF T L).1.code=0):(L.map (·.1)).length<=6/\(tkF T L).2.length=(L.map (·.1)).length+1/\SrcsOk (tkF T L).2:=by
 unfold tkF at h |-;by_cases y:qck L=false
 ·rw[if_pos y]at h;cases h
 rw[if_neg y]at h |-;have y:qck L=true:=by simpa using y
 unfold qck at y;rw[yL,yN]at y;have z:(qau L).map (·.1)=qbq L:=by unfold qau qbq;rw[List.map_map];rfl
 refine⟨by rw[yR];exact y.1,?_,q0d _ _ (by unfold qau;rw[yR];exact y.1) (by rw[z];exact y.2) h⟩;have:=(Pl.qn0 _ h).1;rw[this];simp[qau]
theorem zek(ho:zei)(Ho:∀K,SkOk K->∀k,q3y K k)(T:zT)(v:Value)(L:List (zT×zT))(w:World)(hA:qk5 w v L)(Hi:∀p∈L,p.1.size<=1000000000) :
  zC 18 #[.string T,v] w fun e w'=>zdt w T L e w':=by
 have hT:=q7j ho T v L w hA Hi;obtain⟨ao,cap,hv,_⟩:=hA;subst hv;have V:=@zhz T L;generalize hQ:(fun(e:Ending) (w':World)=>zdt w T L e w')=Q;have HQ:=zH hQ;unfold zdt at HQ;unfold qt1 at hT;generalize tkF T L=Z at hT V HQ;obtain⟨⟨c,kd,pl,ps⟩,S⟩:=Z;simp only at hT V HQ;unfold qnt bs at hT;have HT:=zH hT;have Hp:=zH V;clear hT hQ V Hi;go_enter func18,ntmps18
 go_upto_region 2 with(go_at_call 32;refine xQ HT.out ?_;rintro e w1 ⟨⟨p,rfl,hp⟩,hb⟩;have HP:=zH hp;have HB:=zH hb;clear hp hb;dsimp only)
 have U:=zH (HB.out.alloc (o:=.cells #[zI c,zI kd,.string ⟨pl.toArray⟩,zI ps] 31) HB.out.size);have Y:=qaa (xF w1 (.cells #[zI c,zI kd,.string ⟨pl.toArray⟩,zI ps] 31)) 0 _ rfl;have HX:=(show Hid _ from(xL w1.heap.size w1).alloc (yg _) (.cells #[zI c,zI kd,.string ⟨pl.toArray⟩,zI ps] 31));generalize World.alloc w1 _=w2 at U HX Y |-;generalize w1.heap.size=FB at Y |-;by_cases hc:c=0
 rotate_left
 ·have Hs:((c:Int)==0)=false:=yf.2 (by omega)
  have HC:=zH hc;clear hc;go_wp2_with fail
  rw[<-HQ.out];exact⟨⟨false,rfl,fun _ h=>absurd h HC.out,fun h=>nomatch h⟩,U.out⟩
 subst hc;obtain⟨g,pv,RL,vp,rfl,hj⟩:=HP.out rfl;obtain⟨Hj,Hk,X⟩:=Hp.out rfl;obtain⟨K,y⟩:∃K:Sk,K=⟨w.heap.size,g,S,L.map (·.1),pv,RL,vp⟩:=⟨_,rfl⟩;have hK:SkOk K:=by rw[y];exact⟨Hj,Hk,X⟩
 obtain⟨s0,D⟩:∃s0,S[0]?=some s0:=⟨_,yc (by omega)⟩;have I:qah K.S 0=s0.parts:=by rw[y];unfold qah;simp only[D]
 have Hq:=(X.parts 0 s0 D).1;have hl:=X.wf 0 s0 D;have z:K.at_ w2 (zN) []:=by rw[y];exact⟨hj.kept HX.out,World.ownsRow_nil _ _ _ _⟩
 have Ha:=(z.tp.row 0 s0 (by rw[y];exact D)).1;rw[(z.tp.row 0 s0 (by rw[y];exact D)).2.len]at Ha;obtain⟨ao2,cap2,Hb,Hc⟩:=q2q Ha;rw[<-I]at Hc;have He:K.g=g:=by rw[y]
 have hf:K.B=w.heap.size:=by rw[y]
 have J:Hid (WkAt K (w2.alloc (.cells #[zP K.g,zN,zI 0,zI 0,zS,zI 0] 92)) w2.heap.size (zN) (zN) [] [] ⟨0,0,[],0⟩):=
  ⟨z.kept (zB _),xF _ _,by rw[hf];exact U.out.size,World.ownsRow_nil _ _ _ _⟩
 have O:=(show Hid (zW w (w2.alloc (.cells #[zP K.g,zN,zI 0,zI 0,zS,zI 0] 92)))from U.out.alloc U.out.size _);have HN:=zH (fun(W':World) (hW:WkAt K W' w2.heap.size (zN) (zN) [] [] ⟨0,0,[],0⟩)=>Ho K hK 1000000 W' w2.heap.size (zN) (zN) (.slice ao2 (qah K.S 0).length cap2) [] [] 0 0 0 _ Sx.start Sp.start ⟨0,0,[],0⟩ hW Hc (yH _) (by rw[xf];exact yg _) ⟨fun q hq=>(by rw[xf,yd (yg _)]at hq;cases hq),fun i q _ _ h3 h4=>(by rw[I]at h3 |-;have:=qh1 hl i q h3 h4;omega)⟩ ⟨fun e he=>absurd he List.not_mem_nil,List.nodup_nil,fun u hu=>absurd hu List.not_mem_nil⟩ zdi qsy (qnj 0) (fun u hu=>absurd hu List.not_mem_nil) (by simp) (yh hW.le (yj (zL hW.blk))) (by rw[I];simp;omega) (by rw[I];simp;omega));rw[I]at HN;unfold qaz qan at HN;have Hl:=(show Hid (K=⟨w.heap.size,g,S,L.map (·.1),pv,RL,vp⟩)from y);have ht:=zH I;rw[He]at J O;go_upto_region 5 with fail
 generalize w2.heap.size=gw at J HN |-;generalize World.alloc w2 _=w3 at J O HN |-;have hm:=(zL J.out.at_.tp.blk);have c0:=(qaa J.out.at_.tp.blk 0 _ rfl).trans (yE some Hb);have c0':=fun o=>(qaa ((xI w3 o hm).trans J.out.at_.tp.blk) 0 _ rfl).trans (yE some Hb);rw[He]at c0 c0';have Hf:=(show Hid (zW w3 (w3.alloc (.cells #[zI 1,zS,zS,zS,zS,zI 0] 94)).drew)from(zB _).drew);have Ht:=zH D;clear hK I Hq hl z Ha Hc y He Hj Hk X hj Hb hm Y D;go_region_with (first|(go_at_call 34;refine(qln _).mono ?_;rintro e w4 ⟨rfl,rfl⟩)|(go_at_call 33;refine xQ (HN.out _ (J.out.kept Hf.out)) ?_;rintro e w5 ⟨p5,ok5,ve5,vS5,E5,R5,r5,rfl,hg,Hm,hn⟩;dsimp only))
 all_goals
  obtain⟨aoS,capS,hr⟩:=qaq hg.seen;subst hr;have s1:=qaa hg.blk 1 _ rfl;have Hn:=zH Hm.below;have Hg:=zH hn;clear hg Hm hn;have hi:Hid (R5.length<=256->zhv S (L.map (·.1)) R5):=fun h6=>by
   have h:=Hg.out.cl h6;have ha:=Hg.out.all;have hk:=Hl.out;subst hk;exact⟨h6,ha,h.1,fun v hv=>h.2 v hv List.not_mem_nil⟩
  have Hr:Hid (¬R5.length<=256->L≠[]):=fun h6 q=>by
   have ha:=Hg.out.all;have hk:=Hl.out;subst hk q;cases R5 with
   |nil=>exact h6 (yH _)
   |cons u R=>have:=(ha u xo).2;simp at this
  by_cases h6:R5.length<=256
  ·have hs:¬(R5.length:Int) > 256:=by omega
   go_wp2_with fail
   rw[<-HQ.out];exact⟨⟨false,rfl,fun _ _=>⟨R5,hi.out h6⟩,fun h=>nomatch h⟩,O.out.trans (((Below.mono Hf.out O.out.size).trans (by rw[<-hf];exact Hn.out)))⟩
  ·have hs:(R5.length:Int) > 256:=by omega
   go_wp2_with fail
   rw[<-HQ.out];exact⟨⟨true,rfl,(fun h=>nomatch h),fun _=>Hr.out h6⟩,O.out.trans (((Below.mono Hf.out O.out.size).trans (by rw[<-hf];exact Hn.out)))⟩
section
open Go.Maps
theorem qrj(HB:qhp):zdw:=by
 intro T v L w hA ht hm hR Z;have h1:=fun w1 (hb:zW w w1)=>zca HB T v L w1 (hA.kept hb) (ht.kept hb) (hm.below hb) hR Z;have hn:=q8x T L;generalize qc5 T.data.toList (qau L)=q at h1 hn |-;obtain⟨q1,f⟩:=q;simp only at h1 hn |-;have H1:=zH h1;have HN:=zH hn;clear h1 hn hA ht hm hR Z;have HR:Hid ((w.alloc (.cells #[zI 0,zI 0,zS,zI 0] 31)).heap[w.heap.size]?=zK #[zI 0,zI 0,zS,zI 0] 31):=xF _ _;have J:Hid (zW w (w.alloc (.cells #[zI 0,zI 0,zS,zI 0] 31))):=zB _;go_enter func12,ntmps12
 go_wp2_with fail
 refine(H1.out _ J.out).mono ?_;rintro ed w2 ⟨⟨ao,n,cap,rfl,hx⟩,hb⟩;rw[qi4];have HX:=zH hx;have V:=(show Hid _ from(hb.block w.heap.size (by simp)).trans HR.out);have O:=zH (J.out.trans (hb.mono J.out.size));clear hx hb HR J H1;have D:w.heap.size<w2.heap.size:=(ya.1 V.out).1;by_cases hc:f.code=0
 rotate_left
 ·have Hc:((f.code:Int) != 0)=true:=by rw[bne_iff_ne];omega
  have HC:=zH hc;clear hc;go_wp2_with fail
  have z:((w2.alloc (.cells #[.slice ao n cap] 77)).alloc (.cells #[zI (f.code:Nat),zI f.kind,.string ⟨f.place.toArray⟩,zI (f.pos:Nat)] 31)).heap[w.heap.size]?=zK #[zI 0,zI 0,zS,zI 0] 31:=(xI _ _ (by simp;omega)).trans ((xI _ _ D).trans V.out);have U:((w2.alloc (.cells #[.slice ao n cap] 77)).alloc (.cells #[zI (f.code:Nat),zI f.kind,.string ⟨f.place.toArray⟩,zI (f.pos:Nat)] 31)).heap[w2.heap.size+1]?=zK #[zI (f.code:Nat),zI f.kind,.string ⟨f.place.toArray⟩,zI (f.pos:Nat)] 31:=qap _ _ _ (by simp);have ha:=(show Hid _ from(O.out.alloc O.out.size (.cells #[.slice ao n cap] 77)).alloc (by simp;omega) (.cells #[zI (f.code:Nat),zI f.kind,.string ⟨f.place.toArray⟩,zI (f.pos:Nat)] 31));have e1:w2.heap.size+1≠w.heap.size:=by omega
  generalize w2.heap.size+1=E at U e1 |-;generalize World.alloc (World.alloc w2 _) _=w4 at U z ha |-;have x0:=al (qaa z);have y0:w4.frozen? (zO w.heap.size 0)=false:=by simp[World.frozen?,z]
  have y1:w4.frozen? (zO w.heap.size 1)=false:=by simp[World.frozen?,z]
  have y2:w4.frozen? (zO w.heap.size 2)=false:=by simp[World.frozen?,z]
  have y3:w4.frozen? (zO w.heap.size 3)=false:=by simp[World.frozen?,z]
  have l0:=al (qaa U);have he:=zH z;clear U z D;go_region
  all_goals
   go_wp2_with fail
   have hf:=qhg he.out (zI (f.code:Nat)) (zI f.kind) (.string ⟨f.place.toArray⟩) (zI (f.pos:Nat));have hb:=(((ha.out.setCell (p:=zO w.heap.size 0) (yg _) (zI (f.code:Nat))).setCell (p:=zO w.heap.size 1) (yg _) (zI f.kind)).setCell (p:=zO w.heap.size 2) (yg _) (.string ⟨f.place.toArray⟩)).setCell (p:=zO w.heap.size 3) (yg _) (zI (f.pos:Nat));refine qfb results12 rfl w.heap.size (.pointer none) _ rfl rfl hf _ underlying31 rfl (by kernel_rfl) ?_;exact⟨⟨_,rfl,fun _=>rfl,fun q=>absurd q HC.out⟩,hb.drew⟩
 ·have Hc:((f.code:Int) != 0)=false:=by rw[hc];rfl
  have HC:Hid (f=Ft.none):=HN.out hc;obtain⟨B,F,M,s,h1,h2,h3⟩:=HX.out hc;have He:=zH h2;have Hf:=zH h3;have hg:Hid (w.heap.size<=B):=yh (by simp) h1;have y:∀o o' o'',(((w2.alloc o).alloc o').alloc o'').heap[w.heap.size]?=zK #[zI 0,zI 0,zS,zI 0] 31:=fun o o' o''=>(xI _ _ (by simp;omega)).trans ((xI _ _ (by simp;omega)).trans ((xI _ _ D).trans V.out));have x0:=fun o o' o''=>al (qaa (y o o' o''));have y0:∀o o' o'',(((w2.alloc o).alloc o').alloc o'').frozen? (zO w.heap.size 0)=false:=fun o o' o''=>by simp[World.frozen?,y o o' o'']
  have y1:∀o o' o'',(((w2.alloc o).alloc o').alloc o'').frozen? (zO w.heap.size 1)=false:=fun o o' o''=>by simp[World.frozen?,y o o' o'']
  have y2:∀o o' o'',(((w2.alloc o).alloc o').alloc o'').frozen? (zO w.heap.size 2)=false:=fun o o' o''=>by simp[World.frozen?,y o o' o'']
  have y3:∀o o' o'',(((w2.alloc o).alloc o').alloc o'').frozen? (zO w.heap.size 3)=false:=fun o o' o''=>by simp[World.frozen?,y o o' o'']
  have Hg:=zH y;have hi:=zH D;clear hc h1 h2 h3 HX y D;go_wp2_with fail
  have X:=((((xL w2.heap.size w2).alloc (yg _) (.cells #[.slice ao n cap] 77)).alloc (by simp) (.cells #[zI (f.code:Nat),zI f.kind,.string ⟨f.place.toArray⟩,zI (f.pos:Nat)] 31)).alloc (by simp;omega) (.cells #[.slice ao n cap] 81));have Y:=qap ((w2.alloc (.cells #[.slice ao n cap] 77)).alloc (.cells #[zI (f.code:Nat),zI f.kind,.string ⟨f.place.toArray⟩,zI (f.pos:Nat)] 31)) (.cells #[.slice ao n cap] 81) (w2.heap.size+1+1) (by simp);have y:=Hg.out (.cells #[.slice ao n cap] 77) (.cells #[zI (f.code:Nat),zI f.kind,.string ⟨f.place.toArray⟩,zI (f.pos:Nat)] 31) (.cells #[.slice ao n cap] 81);have Ha:=He.out.below X;have Hb:=O.out.trans (X.mono O.out.size);have I:w2.heap.size+1+1≠w.heap.size:=by have:=hi.out;omega
  clear X x0 y0 y1 y2 y3;generalize w2.heap.size+1+1=G at Y I |-;generalize World.alloc (World.alloc (World.alloc w2 _) _) _=w5 at Y y Ha Hb |-;have hf:=qhg y (zI 0) (zI 0) (zS) (zI 0);have hv:=Ha.fault4 y (zI 0) (zI 0) (zS) (zI 0);have hb:=(((Hb.setCell (p:=zO w.heap.size 0) (yg _) (zI 0)).setCell (p:=zO w.heap.size 1) (yg _) (zI 0)).setCell (p:=zO w.heap.size 2) (yg _) (zS)).setCell (p:=zO w.heap.size 3) (yg _) (zI 0);have ht:((((w5.setCell (zO w.heap.size 0) (zI 0)).setCell (zO w.heap.size 1) (zI 0)).setCell (zO w.heap.size 2) (zS)).setCell (zO w.heap.size 3) (zI 0)).heap[G]?=_:=(xK _ _ _ _ I).trans ((xK _ _ _ _ I).trans ((xK _ _ _ _ I).trans ((xK _ _ _ _ I).trans Y)));refine qfb results12 rfl w.heap.size (zP G) _ rfl rfl hf _ underlying31 rfl (by kernel_rfl) ?_;refine⟨⟨_,by rw[HC.out];rfl,fun q=>absurd (by rw[HC.out];rfl) q,fun _=>⟨G,F,.slice ao n cap,M,s,B,rfl,?_,hg.out,hv,Hf.out⟩⟩,hb⟩;exact ht
end
theorem zh9{S:List Src}{len:Nat}(Z:SrcsOk S)(h:(qew S len).2.code=0)(e:Ev)(he:e.S=S)(hv:e.vis=(qew S len).1):e.Ok/\0<e.vis.length/\e.vis.length<=257/\∀v p,p∈e.parts v->p.text.length<=2000:=by
 obtain⟨s,hk,hs,V,u0,X,_⟩:=zfm (yh Z.few.1 (yg _)) h;have y:=(qo7 S 258 Sr.zero (0,Sx.start) (qus Z) (by decide)).1;have Y:s=qev S 258 Sr.zero (0,Sx.start):=V;rw[<-Y]at y;have D:e.vis=s.vis:=hv.trans hs.symm;have O:s.vis.length<=257:=by
  have h1:=y.few;have h2:=y.ends.few;have h3:=y.vis;omega
 have I:∀(v:Nat) (x:Nat×List Int),e.vis[v]?=some x->e.parts v=qah S x.1:=fun v x hx=>by
  unfold Ev.parts qah;rw[hx,he];rfl
 have J:∀(v:Nat),e.vis[v]?=none->e.parts v=[]:=fun v hx=>by unfold Ev.parts;rw[hx]
 have z:∀(v:Nat) (x:Nat×List Int),e.vis[v]?=some x->∃a:Src,S[x.1]?=some a/\qah S x.1=a.parts:=fun v x hx=>by
  rw[D]at hx;have h1:=(hk.vis v x hx).1;exact⟨S[x.1],yc h1,by unfold qah;rw[yc h1]⟩
 refine⟨⟨fun v x hx=>?_,fun v i p hp T=>?_,fun v i p hp T=>?_,by rw[D];omega,fun v=>?_⟩,by rw[D];have:=(yb.1 X).1;omega,by rw[D];exact O,fun v p hp=>?_⟩
 ·obtain⟨a,h1,h2⟩:=z v x hx
  rw[D]at hx;have h3:=(hk.vis v x hx).2.1;rw[h2]at h3;exact⟨a,by rw[he];exact h1,h3⟩
 ·cases hx:e.vis[v]? with
  |none=>rw[J v hx]at hp;simp at hp
  |some x=>
    obtain⟨a,h1,h2⟩:=z v x hx;rw[I v x hx,h2]at hp |-;have:=za1 (Z.wf _ a h1) i p hp T;omega
 ·cases hx:e.vis[v]? with
  |none=>rw[J v hx]at hp;simp at hp
  |some x=>
    rw[I v x hx]at hp;have U:=hx;rw[D]at U;obtain⟨_,h2,h3⟩:=hk.vis v x U;have hm:e.marks v=x.2:=by unfold Ev.marks;rw[hx]
    have hi:i<x.2.length:=by rw[h2];exact(yb.1 hp).1
    rw[hm,xx,yc hi,D];exact h3 i p _ hp T (yc hi)
 ·cases hx:e.vis[v]? with
  |none=>rw[J v hx];simp
  |some x=>
    obtain⟨a,h1,h2⟩:=z v x hx;rw[I v x hx,h2];have:=(Z.parts _ a h1).1;omega
 ·cases hx:e.vis[v]? with
  |none=>rw[J v hx]at hp;cases hp
  |some x=>
    obtain⟨a,h1,h2⟩:=z v x hx;rw[I v x hx,h2]at hp;exact((Z.parts _ a h1).2 p hp).1
theorem qqt(t:zU)(P:List (zU×zU))(h:(qc5 t P).2.code=0)(e:Ev)(y:e.S=(qc5 t P).1.2)(z:e.vis=(qc5 t P).1.1):e.Ok/\0<e.vis.length/\e.vis.length<=257/\∀v p,p∈e.parts v->p.text.length<=2000:=by
 unfold qc5 at h y z;split at h
 ·cases h
 ·rename_i q1
  rw[if_neg q1]at y z;split at h
  ·rename_i q2;exact absurd h q2
  ·rename_i q2
   rw[if_neg q2]at y z;split at h
   ·rename_i q3;exact absurd h q3
   ·rename_i q3
    rw[if_neg q3]at y z;have D:(qa5 (([],t)::P)).1.code=0:=by simpa using q2
    have I:qhn (P.map (·.1))=true:=by
     cases J:qhn (P.map (·.1))with
     |true=>rfl
     |false=>exact absurd (.inr J) q1
    exact zh9 (q0d t P (by have:=fun q=>q1 (.inl q);omega) I D) (by simpa using q3) e y z
section
open Go Go.Lib Go.Shelf
theorem q5w(gT:Nat)(ao:Option Addr)(n cap:Nat)(w:World)(D:0<n)(h:w.cell? (zO gT 0)=some (.slice ao n cap)):zC 35 #[zP gT] w (zQ (.bool true) w):=by
 have y:(0:Int)<(n:Int):=by omega
 have z:decide ((0:Int)<(n:Int))=true:=by simp;omega
 go_enter func35,ntmps35
 go_wp2
 go_ret
 exact⟨qas (by simp),rfl⟩
def RenC(w0:World)(r:Wt×Int):Ending->World->Prop:=fun ed w'=>∃y,ed=.returned (.tuple #[bs r.1.out,y,zI r.2])/\(r.2≠0->y=zN)/\(r.2=0->w'.ownsRow w0.heap.size 55 3 y r.1.holes.length (qhd r.1.holes))/\zW w0 w'
theorem qss{w:World}{vv dv:Value}{e:Ev}{M gT:Nat}(O:Evm w vv dv e M)(y:0<e.vis.length)(T:w.cell? (zO gT 0)=some vv)(r:Wt×Int)(U:e.page=r) :
  zC 19 #[zP gT,dv,zI e.depth,zI e.room] w (RenC w r):=by
 obtain⟨bv,vcap,rfl,_,_⟩:=id O.vis;obtain⟨da,dcap,rfl,_,_⟩:=id O.ds;have V:Hid (zC 36 #[.agg #[zF bv e.vis.length vcap],.slice da e.D.length dcap,zI e.depth,zI e.room] w fun ed w'=>∃ao n cap,ed=.returned (.tuple #[.string ⟨r.1.out.toArray⟩,.slice ao n cap,zI r.2])/\Hid (RenC w r ed w')):=by
  refine(zb3 O y r U).mono ?_;rintro ed w' ⟨z,rfl,X,Y,Z⟩;have hf:∃ao n cap,z=.slice ao n cap:=by
   by_cases hz:r.2=0
   ·rcases(Y hz).2 with ⟨q,_⟩ | ⟨b,cap,cur,q,_⟩
    ·exact⟨_,_,_,q⟩
    ·exact⟨_,_,_,q⟩
   ·exact⟨_,_,_,X hz⟩
  obtain⟨ao,n,cap,rfl⟩:=hf;exact⟨ao,n,cap,rfl,_,rfl,X,Y,Z⟩
 have HM:=zH (q5w gT (some (zO bv 0)) e.vis.length vcap w y T);have hd:=O.depth;have I:¬e.depth<0:=by omega
 have J:¬ 50<e.depth:=by omega
 clear O U;go_enter func19,ntmps19
 go_wp2_with (first
  |(go_at_call 36;refine xQ V.out ?_;rintro ed w' ⟨ao,n,cap,rfl,HO⟩)
  | (go_at_call 35;refine xQ HM.out ?_;rintro ed w' ⟨rfl,rfl⟩))
 go_ret3
 exact HO.out
end
variable{w w':World}{g:Nat}{vv:Value}{r:List (Nat×List Int)×List Src}
def TplV(w:World)(g:Nat)(vv:Value)(r:List (Nat×List Int)×List Src):Prop:=
 w.cell? (zO g 0)=some vv/\∃bv cap,vv=zF bv r.1.length cap/\bv<w.heap.size/\∀v,v<r.1.length->∃po pcap gm,ViOne w ⟨[],r.2,r.1,0,0⟩ v po pcap gm /\
  w.cell? (zO bv (v*2))=some (.slice po (Ev.parts ⟨[],r.2,r.1,0,0⟩ v).length pcap)/\w.cell? (zO bv (v*2+1))=some (zF gm (Ev.parts ⟨[],r.2,r.1,0,0⟩ v).length (Ev.parts ⟨[],r.2,r.1,0,0⟩ v).length)
theorem TplV.below(h:TplV w g vv r)(y:zW w w'):TplV w' g vv r:=by
 obtain⟨z,bv,cap,D,I,J⟩:=h;refine⟨(y.cell (p:=zO g 0) (qka z)).trans z,bv,cap,D,yi I y.size,fun v O=>?_⟩;obtain⟨po,pcap,gm,k1,k2,k3⟩:=J v O;refine⟨po,pcap,gm,⟨fun j q T=>?_,(k1.below y).2,yi k1.lt y.size⟩,(y.cell (p:=zO bv (v*2)) I).trans k2,(y.cell (p:=zO bv (v*2+1)) I).trans k3⟩;obtain⟨b,b1,b2,b3⟩:=k1.part j q T;exact⟨b,b1,yi b2 y.size,(y.cell (p:=zO b j) b2).trans b3⟩
theorem qsf(F:Fix):∀(M:List Nat) (l:List (Nat×List Int)) (v:Nat) (x:Nat×List Int) (g:Nat),l[v]?=some x->M[v]?=some g->(qdw F M l)[v*2]?=some (F.pv x.1)/\(qdw F M l)[v*2+1]?=some (zF g x.2.length x.2.length)
 |[],_,v,x,g,_,h=>by simp at h
 |_::_,[],v,x,g,h,_=>by simp at h
 |m::M,y::l,0,x,g,h1,h2=>by
   simp at h1 h2;subst h1 h2;exact⟨rfl,rfl⟩
 |m::M,y::l,v+1,x,g,h1,h2=>by
   have:=qsf F M l v x g (by simpa using h1) (by simpa using h2);rw[show(v+1)*2=v*2+2 by omega];exact this
theorem q7d{B:Nat}{p:Value}(h:zht w B p r)(hr:0<r.1.length)(hk:Ev.Ok ⟨[],r.2,r.1,0,0⟩):∃g vv,p=zP g/\TplV w g vv r:=by
 obtain⟨g,F,vv,M,s,B',hp,hg,_,hs,hv⟩:=h;have hl:0<s.vis.length:=by rw[hv];exact hr
 obtain⟨bv,cap,U,_,Z⟩:=qai hs.row hl;refine⟨g,vv,hp,qaa hg 0 vv rfl,bv,cap,by rw[U,hv],Z,fun v V=>?_⟩;obtain⟨x,hx⟩:∃x,r.1[v]?=some x:=⟨_,yc V⟩;have X:s.vis[v]?=some x:=by rw[hv];exact hx
 have ha:v<M.length:=by rw[hs.len,hv];exact V
 obtain⟨gm,Y⟩:∃gm,M[v]?=some gm:=⟨_,yc ha⟩;obtain⟨sr,J,O⟩:=hk.src v x hx;have J:r.2[x.1]?=some sr:=J;have y:Ev.parts ⟨[],r.2,r.1,0,0⟩ v=sr.parts:=by
  unfold Ev.parts;simp only[hx,J]
 have I:Ev.marks ⟨[],r.2,r.1,0,0⟩ v=x.2:=by
  unfold Ev.marks;simp only[hx]
 have D:=hs.se.src.row x.1 sr J;obtain⟨po,pcap,Ha⟩:=qaq D;obtain⟨c1,c2⟩:=qsf F M s.vis v x gm X Y;have z:=hs.row;rw[U]at z;have d1:=qcs z _ _ c1;have d2:=qcs z _ _ c2;obtain⟨m1,_⟩:=hs.marks v gm x Y X;rw[Ha]at d1 D;rw[O]at d2;refine⟨po,pcap,gm,⟨fun j q hq=>?_,fun j m hm=>?_,(ya.1 m1).1⟩,by rw[y];exact d1,by rw[y];exact d2⟩
 ·rw[y]at hq
  have T:0<sr.parts.length:=by
   rcases Nat.eq_zero_or_pos sr.parts.length with hz|hz
   ·rw[yC hz]at hq;simp[qbp]at hq
   ·exact hz
  obtain⟨b,cap',hf,_,hb⟩:=qai D T;injection hf with e1 _ _;subst e1;exact⟨b,rfl,hb,qcs D j q hq⟩
 ·rw[I]at hm
  refine qaa m1 j _ ?_;show(qe2 x.2)[j]?=_;unfold qe2;rw[yz,hm];rfl
structure KW(w:World):Prop where
 tabs:PTabs w
 ml:qa3 w
 esc:Tabs w
 pow:qzn w
 powB:14<w.heap.size
theorem KW.kept(h:KW w)(y:zW w w'):KW w':=
 ⟨h.tabs.kept y,(let ⟨m,z⟩:=h.ml;⟨m,(y.cell (qka z)).trans z⟩),h.esc.kept y h.esc.lt,h.pow.below y h.powB,yi h.powB y.size⟩
theorem zec{dv:Value}{t:zU}{P:List (zU×zU)}(z:KW w)(I:(qc5 t P).2.code=0)(J:TplV w g vv (qc5 t P).1)(D:List Dt)(depth room:Int)(O:DsAt w.heap.size w dv D)(T:∀d∈D,-9223372036854775808<=d.n/\d.n<=9223372036854775807)
  (U:room<=9223372036854775807) (hd:0<=depth/\depth<=50) (V:∀p,(qc7 (qbe D p)).length<=4000000) (M:Nat) (X:5001*M<=140737488355328) (y:Ev.Small ⟨D,(qc5 t P).1.2,(qc5 t P).1.1,depth,room⟩ M) :
  Evm w vv dv ⟨D,(qc5 t P).1.2,(qc5 t P).1.1,depth,room⟩ M/\0<(qc5 t P).1.1.length:=by
 obtain⟨Y,Z,h3,h4⟩:=qqt t P I ⟨D,(qc5 t P).1.2,(qc5 t P).1.1,depth,room⟩ rfl rfl;obtain⟨_,bv,cap,k1,k2,k3⟩:=J;refine⟨⟨Y,y,X,O,T,z.pow,z.powB,z.ml,z.esc,U,hd,fun p=>yh (V p) (by omega),fun v p hp=>yh (h4 v p hp) (by omega),bv,cap,k1,k2,fun v hv=>?_⟩,Z⟩;obtain⟨po,pcap,gm,q1,q2,q3⟩:=k3 v hv;exact⟨po,pcap,gm,⟨q1.part,q1.mark,q1.lt⟩,q2,q3⟩
end Go.Proofs.YtfkhljmiehdgmaaGreatDoor
