/-
  Steps of the proof.
-/
import Derived.Test.YtfkhljmiehdgmaaGreatDoorCuBP
import Derived.Test.YtfkhljmiehdgmaaGreatDoorCuBQ
import Derived.Test.YtfkhljmiehdgmaaGreatDoorCuBO
set_option maxRecDepth 100000
set_option maxHeartbeats 40000000
namespace Go.Proofs.YtfkhljmiehdgmaaGreatDoor
open Go.RowKit Go.Proofs.Tryz Pl
variable{B:Nat}{w w':World}
def qe6(e:Et):List Value:=(qcj e.n e.x.view).toList++((qan e.p).toList++[.bool e.ok])
def qh7(E:List Et):List Value:=E.flatMap qe6
theorem q1s(E:List Et):(qh7 E).length=E.length*17:=by
 induction E with
 |nil=>rfl
 |cons p L ih=>show(qh7 L).length+17=_;rw[ih,yK];omega
theorem qye(L:List Et)(p:Et):qh7 (L++[p])=qh7 L++qe6 p:=by simp[qh7]
theorem qnw:∀(L:List Et) (k:Nat) (p:Et),L[k]?=some p->∀(j:Nat) (v:Value),(qe6 p)[j]?=some v->(qh7 L)[k*17+j]?=some v
 |[],k,p,e=>by simp at e
 |q::L,0,p,e=>by
   simp only[yS,Option.some.injEq]at e;subst e;intro j v hv;show(qe6 q++qh7 L)[0*17+j]?=some v;rw[Nat.zero_mul,xg,yr (yb.1 hv).1];exact hv
 |q::L,k+1,p,e=>by
   intro j v hv;have:=qnw L k p (by simpa using e) j v hv;show(qe6 q++qh7 L)[(k+1)*17+j]?=some v;rw[yt (by simp[qe6,qcj,qan];omega)];have e:(k+1)*17+j - (qe6 q).length=k*17+j:=by simp[qe6,qcj,qan];omega
   rw[e];exact this
def qcv(W:List Vt):List Value:=W.flatMap fun u=>(qcj u.1 u.2.view).toList
theorem qlg(W:List Vt):(qcv W).length=W.length*10:=by
 induction W with
 |nil=>rfl
 |cons p L ih=>show(qcv L).length+10=_;rw[ih,yK];omega
theorem qn6(L:List Vt)(u:Vt):qcv (L++[u])=qcv L++(qcj u.1 u.2.view).toList:=by simp[qcv]
theorem qsc:∀(L:List Vt) (k:Nat) (u:Vt),L[k]?=some u->∀(j:Nat) (v:Value),(qcj u.1 u.2.view).toList[j]?=some v->(qcv L)[k*10+j]?=some v
 |[],k,p,e=>by simp at e
 |q::L,0,p,e=>by
   simp only[yS,Option.some.injEq]at e;subst e;intro j v hv;show((qcj q.1 q.2.view).toList++qcv L)[0*10+j]?=some v;rw[Nat.zero_mul,xg,yr (yb.1 hv).1];exact hv
 |q::L,k+1,p,e=>by
   intro j v hv;have:=qsc L k p (by simpa using e) j v hv;show((qcj q.1 q.2.view).toList++qcv L)[(k+1)*10+j]?=some v;rw[yt (by simp[qcj];omega)];have e:(k+1)*10+j - ((qcj q.1 q.2.view).toList).length=k*10+j:=by simp[qcj];omega
   rw[e];exact this
structure Ck(B:Nat)(w w':World):Prop where
 below:Below B w w'
 keep:∀(k:Nat) (cs:Array Value) (t:TypeId) (fz:Nat×Nat),w.heap[k]?=some (.cells cs t fz)->t≠201->t≠101->w'.heap[k]?=w.heap[k]?
theorem Ck.refl(B:Nat)(w:World):Ck B w w:=⟨xM _ _,fun _ _ _ _ _ _ _=>rfl⟩
theorem Ck.trans{a b c:World}(h:Ck B a b)(k:Ck B b c):Ck B a c:=
 ⟨h.below.trans k.below,fun i cs t fz hi h1 h2=>(k.keep i cs t fz ((h.keep i cs t fz hi h1 h2).trans hi) h1 h2).trans (h.keep i cs t fz hi h1 h2)⟩
theorem Ck.of_below(h:zW w w')(hB:B<=w.heap.size):Ck B w w':=
 ⟨h.mono hB,fun k _ _ _ hk _ _=>h.block k (ya.1 hk).1⟩
structure EnAt(w:World)(B g:Nat)(S:List Src)(N:List zT)(pv:Nat->Value)(RL:Nat->List Rm)(vp ve:Value)(E:List Et):Prop where
 tp:TpAt w B g S N pv RL vp ve
 ends:w.ownsRow B 201 17 ve E.length (qh7 E)
theorem EnAt.kept{g:Nat}{S:List Src}{N:List zT}{pv:Nat->Value}{RL:Nat->List Rm}{vp ve:Value}{E:List Et}(h:EnAt w B g S N pv RL vp ve E)(hb:zW w w'):EnAt w' B g S N pv RL vp ve E:=
 ⟨h.tp.kept hb,qab h.ends fun k hk=>hb.block k (h.ends.lt k hk).2⟩
theorem qpp(B:Nat)(vW:Value)(W:List Vt)(n:Nat)(x:Sx)(w:World)(hl:W.length<=1000000000000)(h:w.ownsRow B 143 10 vW W.length (qcv W))(hW:∀u∈W,Cm u.2)(hx:Cm x) :
  zC 57 #[vW,qfv n x.view] w fun e w'=>(∃b:Bool,e=.returned (.bool b)/\(b=true↔(n,x)∈W))/\zW w w':=by
 by_cases h0:W.length=0
 ·have e:W=[]:=yC h0
  subst e;rcases h.2 with⟨rfl,_⟩|⟨g,cap,cur,rfl,_,hg,_⟩
  ·refine(qzu n x.view w).mono ?_
   rintro e w' ⟨rfl,hb⟩;exact⟨⟨false,rfl,by simp⟩,hb⟩
  ·refine(qpo g cap [] n x.view w (yH _) ⟨fun i y hy=>by simp at hy,(ya.1 hg).1⟩).mono ?_
   rintro e w' ⟨⟨b,rfl,hb⟩,ha⟩;exact⟨⟨b,rfl,hb.trans (by simp)⟩,ha⟩
 obtain⟨g,cap,rfl,_,Ha⟩:=qai h (by omega);have hv:VisAt w g (W.map fun u=>((u.1:Int),u.2.view)):=by
  refine⟨fun i y hy j v hj=>?_,Ha⟩;rw[yz]at hy;obtain⟨u,hu,rfl⟩:=yy.1 hy;have hc:=qsc W i u hu j v hj;have hi:=(yb.1 hc).1;rw[qlg]at hi;rw[World.ownsRow.cellAt h (i*10+j) hi];exact hc
 have:=qpo g cap _ n x.view w (by rw[yR];exact hl) hv;rw[yR]at this;refine this.mono ?_;rintro e w' ⟨⟨b,rfl,hb⟩,ha⟩;exact⟨⟨b,rfl,hb.trans (zhn hW hx)⟩,ha⟩
theorem q8i(g:Nat)(vp:Value)(x:zT)(w:World)(hv:vp=zN\/∃a c,vp=.slice (some a) 0 c)(h:w.cell? (zO g 1)=some vp) :
  zC 56 #[zP g,.string x] w fun e w'=>e=.returned (zI (-1))/\w'=w:=by
 rcases hv with rfl|⟨a,c,rfl⟩
 all_goals
  go_enter func56,ntmps56
  go_wp2
  go_loopw [5] (fun i wr=>i=zI 0/\wr=w) (fun _ _=>0)
  case atStart=>exact⟨rfl,rfl⟩
  case round=>
   obtain⟨rfl,rfl⟩:=hrel;go_wp2
   go_ret
   exact⟨rfl,rfl⟩
theorem q1k{N:List zT}{x:zT}{r:Int}(h:qv8 x N r):(r=-1/\qfr (N.map fun y=>y.data.toList) x.data.toList=none)\/∃k:Nat,r=k/\qfr (N.map fun y=>y.data.toList) x.data.toList=some k:=by
 have hi:∀(a b:zT),a.data.toList=b.data.toList->a=b:=fun a b e=>xj (Array.toList_inj.1 e);rcases h with⟨k,rfl,hk,ha⟩|⟨rfl,Ha⟩
 ·right
  refine⟨k,rfl,?_⟩;unfold qfr;rw[List.findIdx?_eq_some_iff_getElem];have hb:=(yb.1 hk);obtain⟨hl,he⟩:=hb;refine⟨by rw[yR];exact hl,by simp[he],fun j hj=>?_⟩;simp only[List.getElem_map,yF];intro e;exact ha j hj (by rw[yc (by omega),hi _ _ e])
 ·left
  refine⟨rfl,?_⟩;unfold qfr;rw[List.findIdx?_eq_none_iff];intro y hy;obtain⟨z,hz,rfl⟩:=xt.1 hy;simp only[yf];intro e;obtain⟨j,hj,rfl⟩:=List.getElem_of_mem hz;exact Ha j (by rw[yc hj,hi _ _ e])
theorem q8h(x:zT){w:World}{B g:Nat}{S:List Src}{N:List zT}{pv:Nat->Value}{RL:Nat->List Rm}{vp ve:Value}(h:TpAt w B g S N pv RL vp ve)(hN:N.length<=100000) :
  zC 56 #[zP g,.string x] w fun e w'=>(∃r:Int,e=.returned (zI r)/\((r=-1/\qfr (N.map fun y=>y.data.toList) x.data.toList=none)\/∃k:Nat,r=k/\qfr (N.map fun y=>y.data.toList) x.data.toList=some k))/\w'=w:=by
 have h1:=qaa h.blk 1 _ rfl;by_cases h0:N.length=0
 ·have e:N=[]:=yC h0
  subst e;refine(q8i g vp x w ?_ h1).mono ?_
  ·rcases h.parts.2 with ⟨e,_⟩ | ⟨g',cap,cur,e,_⟩
   ·exact .inl e
   ·exact .inr ⟨_,_,e⟩
  ·rintro e w' ⟨rfl,hw⟩
   exact⟨⟨-1,rfl,.inl ⟨rfl,rfl⟩⟩,hw⟩
 ·obtain⟨b,cap,rfl,_,_⟩:=qai h.parts (by omega)
  refine(zbz g b N x w hN ⟨⟨cap,h1⟩,fun i y hy=>?_⟩).mono ?_
  ·have hc:=(qki pv N 1 i y hy).1
   have hi:=(yb.1 hc).1;rw[qir]at hi;rw[World.ownsRow.cellAt h.parts (i*2) hi];exact hc
  ·rintro e w' ⟨⟨r,rfl,hr⟩,hw⟩
   exact⟨⟨r,rfl,q1k hr⟩,hw⟩
variable{w0 wr w' w:World}{W R:List Vt}{vW ve':Value}{p':Sp}{E' E:List Et}{g r r' n i:Nat}{x x':Sx}{P:List Pt}{pre:List It}
structure Sk where
 B:Nat
 g:Nat
 S:List Src
 N:List zT
 pv:Nat->Value
 RL:Nat->List Rm
 vp:Value
def Sk.nm(K:Sk):List zU:=K.N.map fun y=>y.data.toList
def Sk.bd(K:Sk)(n:Nat):List It:=Pl.its K.nm (qah K.S (n+1))
structure SkOk(K:Sk):Prop where
 six:K.N.length<=6
 len:K.S.length=K.N.length+1
 ok:SrcsOk K.S
abbrev Sk.at_(K:Sk)(w:World)(ve:Value)(E:List Et):Prop:=EnAt w K.B K.g K.S K.N K.pv K.RL K.vp ve E
structure EdP(K:Sk)(R:List Vt)(w w':World)(E:List Et)(W:List Vt)(n:Nat)(x:Sx)(r more:Nat)(p':Sp)(ok:Bool)(ve':Value)(E':List Et)(r':Nat):Prop where
 at_:K.at_ w' ve' E'
 inv:EInv K.bd R r' E' W
 sp:SpOk r' p'
 len:E.length<=E'.length
 up:r<=r'
 le:r'<=r+4000000*(E'.length - E.length)+more
 yes:ok=true->∃y,Done K.bd n x y/\ParX y p'/\Cm y
 no:ok=false->∀y,¬Done K.bd n x y
 ck:Ck K.B w w'
def EdO(K:Sk)(R:List Vt)(w:World)(E:List Et)(W:List Vt)(n:Nat)(x:Sx)(r more:Nat)(e:Ending)(w':World):Prop:=
 ∃p' ok ve' E' r',e=.returned (.tuple #[qaz p',.bool ok])/\EdP K R w w' E W n x r more p' ok ve' E' r'
def EndC(K:Sk)(R:List Vt)(k:Nat):Prop:=∀(w:World) (ve vW:Value) (E:List Et) (W:List Vt) (n:Nat) (x:Sx) (p:Sp) (r:Nat),
 K.at_ w ve E->w.ownsRow K.B 143 10 vW W.length (qcv W)->EInv K.bd R r E W->Cm x->ParX x p->SpOk r p->n<K.N.length->InS K.bd R (n,x)->(n,x)∉W->(∀u∈W,Need K.bd u (n,x))->K.B<=w.heap.size ->
 429926418001<=E.length+W.length+k->r+4000000*(429926418001 - (E.length+W.length))<=1900000000000000000 ->
 zC 58 #[zP K.g,zI n,qaz p,vW] w fun e w'=>EdO K R w E W n x r 0 e w'
def zhw(K:Sk)(R:List Vt)(k:Nat):Prop:=∀(w:World) (ve vW:Value) (E:List Et) (W:List Vt) (n:Nat) (x:Sx) (p:Sp) (r:Nat),
 K.at_ w ve E->w.ownsRow K.B 143 10 vW W.length (qcv W)->EInv K.bd R r E W->Cm x->ParX x p->SpOk r p->n<K.N.length->InS K.bd R (n,x)->(∀u∈W,u=(n,x)\/Need K.bd u (n,x))->K.B<=w.heap.size ->
 429926418001<=E.length+W.length+k->r+4000000*(429926418002 - (E.length+W.length))<=1900000000000000000 ->
 zC 89 #[zP K.g,K.pv (n+1),qaz p,vW] w fun e w'=>EdO K R w E W n x r 4000000 e w'
structure Enm(K:Sk)(w0 wr:World)(W:List Vt)(vW:Value)(p':Sp)(ve':Value)(E':List Et):Prop where
 spot:wr.heap[w0.heap.size]?=zK (qan p') 94
 res:wr.heap[w0.heap.size+1]?=zK #[zI 0,zS,zS,zS,zS,zI 0] 94
 at_:K.at_ wr ve' E'
 wi:wr.ownsRow K.B 143 10 vW W.length (qcv W)
 ck:Ck K.B w0 wr
theorem Enm.lt{K:Sk}(h:Enm K w0 wr W vW p' ve' E'):w0.heap.size+1<wr.heap.size:=(zL h.res)
theorem Enm.kept{K:Sk}(h:Enm K w0 wr W vW p' ve' E')(hb:zW wr w')(hB:K.B<=wr.heap.size):Enm K w0 w' W vW p' ve' E':=by
 have hl:=h.lt;exact⟨(hb.block _ (by omega)).trans h.spot,(hb.block _ hl).trans h.res,h.at_.kept hb,qab h.wi fun q hq=>hb.block q (h.wi.lt q hq).2,h.ck.trans (Ck.of_below hb hB)⟩
theorem Enm.ended{K:Sk}{ve'':Value}{E'':List Et}(h:Enm K w0 wr W vW p' ve' E')(ha:Ck K.B wr w')(Ha:K.at_ w' ve'' E''):Enm K w0 w' W vW p' ve'' E'':=by
 refine⟨(ha.keep _ _ _ _ h.spot (by decide) (by decide)).trans h.spot,(ha.keep _ _ _ _ h.res (by decide) (by decide)).trans h.res,Ha,qab h.wi fun q hq=>?_,h.ck.trans ha⟩;obtain⟨cur,hc⟩:=qac h.wi q hq;exact ha.keep _ _ _ _ hc (by decide) (by decide)
theorem qc0{k:Nat}(hk:k≠g)(v0 v1 v2 v3 v4 v5:Value):(set6 w g v0 v1 v2 v3 v4 v5).heap[k]?=w.heap[k]?:=
 (xL _ _ _ _ hk).trans ((xL _ _ _ _ hk).trans ((xL _ _ _ _ hk).trans ((xL _ _ _ _ hk).trans ((xL _ _ _ _ hk).trans (xL _ _ _ _ hk)))))
theorem qmz{t:TypeId}{u0 u1 u2 u3 u4 u5:Value}(h:w.heap[g]?=zK #[u0,u1,u2,u3,u4,u5] t)(v0 v1 v2 v3 v4 v5:Value):(set6 w g v0 v1 v2 v3 v4 v5).heap[g]?=zK #[v0,v1,v2,v3,v4,v5] t:=by
 have h1:=xH w g 0 _ _ v0 h;have h2:=xH _ g 1 _ _ v1 h1;have h3:=xH _ g 2 _ _ v2 h2;have h4:=xH _ g 3 _ _ v3 h3;have h5:=xH _ g 4 _ _ v4 h4;exact xH _ g 5 _ _ v5 h5
theorem Enm.set{K:Sk}(h:Enm K w0 wr W vW p' ve' E')(hB:K.B<=w0.heap.size)(q:Sp):Enm K w0 (set6 wr w0.heap.size (zI q.mode) (zV q.tag) (zV q.attr) (zV q.inside) (zV q.run) (zI q.far)) W vW q ve' E':=by
 have Ha:∀(k:Nat) (cs:Array Value) (t:TypeId) (fz:Nat×Nat),wr.heap[k]?=some (.cells cs t fz)->t≠94->(set6 wr w0.heap.size (zI q.mode) (zV q.tag) (zV q.attr) (zV q.inside) (zV q.run) (zI q.far)).heap[k]?=wr.heap[k]?:=fun k cs t fz hk ht=>qc0 (qae hk h.spot ht) _ _ _ _ _ _;have ha:∀(e:TypeId) (sz n:Nat) (v:Value) (xs:List Value),wr.ownsRow K.B e sz v n xs->e≠94->(set6 wr w0.heap.size (zI q.mode) (zV q.tag) (zV q.attr) (zV q.inside) (zV q.run) (zI q.far)).ownsRow K.B e sz v n xs:=fun e sz n v xs hv he=>qab hv fun k hk=>by
  obtain⟨cur,hc⟩:=qac hv k hk;exact Ha _ _ _ _ hc he
 refine⟨qmz h.spot _ _ _ _ _ _,(qc0 (by omega) _ _ _ _ _ _).trans h.res,⟨⟨(Ha _ _ _ _ h.at_.tp.blk (by decide)).trans h.at_.tp.blk,h.at_.tp.le,ha _ _ _ _ _ h.at_.tp.parts (by decide),fun i s hs=>⟨ha _ _ _ _ _ (h.at_.tp.row i s hs).1 (by decide),(h.at_.tp.row i s hs).2⟩⟩,ha _ _ _ _ _ h.at_.ends (by decide)⟩,ha _ _ _ _ _ h.wi (by decide),qb9 h.ck.below hB _ _ _ _ _ _,fun k cs t fz hk h1 h2=>(qc0 (by have:=(ya.1 hk).1;omega) _ _ _ _ _ _).trans (h.ck.keep k cs t fz hk h1 h2)⟩
theorem Enm.drew{K:Sk}(h:Enm K w0 wr W vW p' ve' E'):Enm K w0 wr.drew W vW p' ve' E':=
 ⟨h.spot,h.res,⟨h.at_.tp.drew,qab h.at_.ends fun _ _=>rfl⟩,qab h.wi fun _ _=>rfl,h.ck.below.drew,h.ck.keep⟩
structure Enp(K:Sk)(R:List Vt)(E:List Et)(W:List Vt)(n:Nat)(x:Sx)(r:Nat)(P:List Pt)(i:Nat)(p':Sp)(x':Sx)(E':List Et)(r':Nat)(pre:List It):Prop where
 inv:EInv K.bd R r' E' W
 cm:Cm x'
 par:ParX x' p'
 sp:SpOk r' p'
 via:Via K.bd pre x x'
 its:K.bd n=pre++qd9 K.nm P i
 le:i<=P.length
 len:E.length<=E'.length
 up:r<=r'
 few:r'<=r+4000000*(E'.length - E.length)+2000*i
theorem q94{B:Nat->List It}(h:EInv B R r E W)(hr:r<=r'):EInv B R r' E W:=⟨fun e he=>(h.each e he).le hr,h.apart,h.wins⟩
theorem Enp.text{K:Sk}(h:Enp K R E W n x r P i p' x' E' r' pre){q:Pt}(hq:P[i]?=some q)(hk:q.kind=1)(hl:q.text.length<=2000) :
  Enp K R E W n x r P (i+1) (qei p' q.text) (qax x' q.text) E' (r'+q.text.length) (pre++[.tx q.text]):=by
 have h1:=(yb.1 hq).1;have:=h.few;have:=h.up;exact⟨q94 h.inv (by omega),zaj _ _ h.cm,qx6 _ _ _ h.cm.fit.fit.ok h.par,spFromOk _ _ _ h.sp,qpq h.via (zgs _ _ _),by rw[h.its,qxq hq hk,yq];rfl,by omega,h.len,by omega,by omega⟩
theorem Enp.hole{K:Sk}(h:Enp K R E W n x r P i p' x' E' r' pre){q:Pt}(hq:P[i]?=some q)(hk:q.kind=2) :
  Enp K R E W n x r P (i+1) p'.behindHole x'.behindHole E' r' (pre++[.ho]):=by
 have h1:=(yb.1 hq).1;have:=h.few;refine⟨h.inv,zai h.cm,qhl _ _ h.cm.fit.fit.ok h.par,?_,qpq h.via (zgt _ _),by rw[h.its,qxr hq hk,yq];rfl,by omega,h.len,h.up,by omega⟩;unfold Sp.behindHole;split
 ·exact⟨h.sp.mode,h.sp.tag,h.sp.attr,h.sp.inside,h.sp.run⟩
 ·exact h.sp
theorem Enp.over{K:Sk}(h:Enp K R E W n x r P i p' x' E' r' pre){j:Nat}(hj:i<=j)(hl:j<P.length)(he:qd9 K.nm P i=qd9 K.nm P (j+1)) :
  Enp K R E W n x r P (j+1) p' x' E' r' pre:=by
 have:=h.few;exact⟨h.inv,h.cm,h.par,h.sp,h.via,by rw[h.its,he],by omega,h.len,h.up,by omega⟩
theorem Enp.call{K:Sk}(h:Enp K R E W n x r P i p' x' E' r' pre){q:Pt}(hq:P[i]?=some q)(hk:q.kind=6){m:Nat}(hn:qfr K.nm q.text=some m)
  {p5:Sp} {y:Sx} {E5:List Et} {r5:Nat} (hd:Done K.bd m x' y) (hp:ParX y p5) (hc:Cm y) (hi:EInv K.bd R r5 E5 W) (hs:SpOk r5 p5) (hl:E'.length<=E5.length) (hu:r'<=r5) (hr:r5<=r'+4000000*(E5.length - E'.length)+0) :
  Enp K R E W n x r P (i+1) p5 y E5 r5 (pre++[.ca m]):=by
 have h1:=(yb.1 hq).1;have:=h.few;have:=h.len;have:=h.up;exact⟨hi,hc,hp,hs,qpq h.via (q64 hd),by rw[h.its,qta hq hk hn,yq];rfl,by omega,by omega,by omega,by omega⟩
theorem q3e{N:List zU}{x:zU}{m:Nat}(h:qfr N x=some m):m<N.length:=by
 unfold qfr at h;rw[List.findIdx?_eq_some_iff_getElem]at h;exact h.1
theorem Enp.named{K:Sk}(h:Enp K R E W n x r P i p' x' E' r' pre){q:Pt}(hq:P[i]?=some q)(hk:q.kind=6){m:Nat}(hn:qfr K.nm q.text=some m)(hP:K.bd n=Pl.its K.nm P)(hl:P.length<=2000)(h6:K.N.length<=6)(ha:InS K.bd R (n,x))(hx:Cm x) :
  m<K.N.length/\InS K.bd R (m,x')/\Need K.bd (n,x) (m,x'):=by
 have hm:m<K.N.length:=by
  have:=q3e hn;unfold Sk.nm at this
  rwa [yR]at this
 have he:K.bd n=pre++.ca m::qd9 K.nm P (i+1):=by rw[h.its,qta hq hk hn]
 refine⟨hm,zfw (k:=pre.length) ha hx.fit ?_ ⟨?_,?_⟩ (by show m<6;omega) h.cm.fit.fit.ok.st.name,zfj he h.via⟩
 ·show (K.bd n).length<=2000
  rw[hP];exact yh (qmu _ _ _ _) hl
 ·show (K.bd n)[pre.length]?=_
  rw[he,yt (yg _),xA];rfl
 ·show Via K.bd ((K.bd n).take pre.length) x x'
  rw[he,List.take_left']
  ·exact h.via
  ·rfl
section
open Go.Maps
structure VwFit(v:Vw):Prop where
 i0:(Lit.int .i64 v.mode).wf=true
 i1:(Lit.int .i64 v.elem).wf=true
 i2:(Lit.int .i64 v.attr).wf=true
 i3:(Lit.int .i64 v.ends).wf=true
 i4:(Lit.int .i64 v.esc).wf=true
 i5:(Lit.int .i64 v.pct).wf=true
 i6:(Lit.int .i64 v.link).wf=true
 nm:v.name.length<=9
theorem qhr{x:Sx}(h:Cm x):VwFit x.view:=by
 obtain⟨h1,h2,h3,h4,h5,h6,h7⟩:=qz7 h.fit.fit.ok;have hm:=h.fit.fit.ok.st.hi;have hw:=h.fit.fit.ok.st.wrap;have hh:=h.fit.fit.ok.ma.hex;refine⟨WalkArith.wf_i64 (by show _/\_;unfold Sx.view;simp only;omega),WalkArith.wf_i64 ?_,WalkArith.wf_i64 ?_,h5,WalkArith.wf_i64 ?_,h7,WalkArith.wf_i64 ?_,h2⟩
 ·have:=qhh x.st.elem
  unfold Sx.view;simp only;omega
 ·unfold Sx.view;simp only;split<;>omega
 ·unfold Sx.view;simp only;repeat' split
  all_goals omega
 ·unfold Sx.view;simp only;unfold qj4;repeat' split
  all_goals omega
theorem qts:prog.cellsOf 111=9:=by kernel_rfl
theorem qrk:prog.cellsOf 143=10:=by kernel_rfl
theorem zen(d:Nat){v:Vw}(h:VwFit v):∃l,prog.keyLits (d+2) 111 [zI v.mode,zI v.elem,zI v.attr,zI v.ends,zI v.esc,zI v.pct,zI v.link,zV v.name,.bool v.ref]=some l:=by
 have hn:(⟨v.name.toArray⟩:zT).size<=maxLen:=by have:=h.nm;simp[ByteArray.size];unfold maxLen;omega
 unfold Program.keyLits;simp only[underlying111];simp[qts,qj9,qy4,qtt,qxo,zd9,q87,h.i0,h.i1,h.i2,h.i3,h.i4,h.i5,h.i6,hn]
theorem zdx{n:Nat}{v:Vw}(h:VwFit v)(hn:n<=100):∃l,keyOf prog 143 (qfv n v)=some l:=by
 obtain⟨d,hs⟩:∃d,prog.types.size+1=(d+2)+1:=⟨prog.types.size - 2,by
  have:4<=prog.types.size:=by decide +kernel
  omega⟩
 obtain⟨l,hl⟩:=zen d h;have hk:prog.keyType 143=true:=by kernel_rfl
 have Ha:(qfv n v).formed prog 143=true:=by
  unfold qfv Value.formed;simp[underlying143,qrk]
 unfold keyOf;simp only[underlying143];rw[hk,Ha,hs];unfold Program.keyLits;simp only[underlying143];have ha:(Lit.int .i64 (n:Int)).wf=true:=WalkArith.wf_i64 (by omega);unfold qfv;simp[Value.cells,qrk,qts,qj9,qxo,ha,hl]
theorem q65{n m:Nat}{v u:Vw}(h:qfv n v=qfv m u):n=m/\v=u:=by
 obtain⟨a,b,c,d,e,f,g,nm,r⟩:=v;obtain⟨a',b',c',d',e',f',g',nm',r'⟩:=u;unfold qfv at h;simp only[Value.agg.injEq,Array.mk.injEq,List.cons.injEq,Value.int.injEq,true_and,Value.string.injEq,Value.bool.injEq,and_true,ByteArray.mk.injEq]at h;obtain⟨h0,h1,h2,h3,h4,h5,h6,h7,h8,h9⟩:=h;have ha:nm=nm':=by simpa using h8
 subst h1 h2 h3 h4 h5 h6 h7 ha h9;exact⟨by omega,rfl⟩
theorem q2k(w:World){n m:Nat}{v u:Vw}(hv:VwFit v)(hu:VwFit u)(hn:n<=100)(hm:m<=100){b:Bool}(hb:b=true↔(n=m/\v=u)):(Op.equal 143 (qfv n v) (qfv m u)).run prog w=.ok b w:=by
 obtain⟨lx,h1⟩:=zdx hv hn;obtain⟨ly,h2⟩:=zdx hu hm;obtain⟨r,hr,ha⟩:=run_equal_deep w (m:=4) (by decide) (by kernel_rfl) (by kernel_rfl) h1 h2;rw[hr];have:r=b:=by
  rw[xi,ha,hb];constructor
  ·intro e
   exact q65 (keyOf_inj_deep (m:=4) (k:=143) (by kernel_rfl) (by kernel_rfl) h1 (by rw[h2,e]))
  ·rintro⟨rfl,rfl⟩
   rw[h1]at h2;exact yk h2
 rw[this]
theorem qsd(w:World)(n m:Nat)(v u:Vw)(o1 o2:Operand):(eqGuard .eql 143 o1 o2 (qfv n v) (qfv m u)).run prog w=.ok () w:=by
 have:prog.eqGuardType prog.depth 143=false:=by kernel_rfl
 unfold eqGuard qfv;simp[run_program,this]
theorem zdy(w:World){n m:Nat}{v u:Vw}(hv:VwFit v)(hu:VwFit u)(hn:n<=100)(hm:m<=100){b:Bool}(hb:b=true↔(n=m/\v=u)):(binOp .eql 143 (qfv n v) (qfv m u)).run prog w=.ok (.bool b) w:=by
 have h:=q2k w hv hu hn hm hb;unfold binOp qfv;unfold qfv at h;simp[h]
theorem qse(w:World){n m:Nat}{v u:Vw}(hv:VwFit v)(hu:VwFit u)(hn:n<=100)(hm:m<=100){b:Bool}(hb:b=true↔(n=m/\v=u)):(Op.equalIn 10000 143 (qfv n v) (qfv m u)).run prog w=.ok b w:=by
 have h:=q2k w hv hu hn hm hb;unfold qfv at h |-;simpa [Op.equal,Op.maxDepth]using h
end
namespace Pl
instance (x:Sx):Decidable (Stays x):=inferInstanceAs (Decidable (∀b∈abc,_))
end Pl
section
open Go.Maps
theorem qrj(HB:qhp):zdw:=by
 intro T v L w hA ht hm hR Hi;have h1:=fun w1 (hb:zW w w1)=>zca HB T v L w1 (hA.kept hb) (ht.kept hb) (hm.below hb) hR Hi;have hn:=q8x T L;generalize qc5 T.data.toList (qau L)=q at h1 hn |-;obtain⟨q1,f⟩:=q;simp only at h1 hn |-;have H1:=zH h1;have HN:=zH hn;clear h1 hn hA ht hm hR Hi;have HR:Hid ((w.alloc (.cells #[zI 0,zI 0,zS,zI 0] 31)).heap[w.heap.size]?=zK #[zI 0,zI 0,zS,zI 0] 31):=xG _ _;have he:Hid (zW w (w.alloc (.cells #[zI 0,zI 0,zS,zI 0] 31))):=zB _;go_enter func12,ntmps12
 go_wp2_with fail
 refine(H1.out _ he.out).mono ?_;rintro ed w2 ⟨⟨ao,n,cap,rfl,hx⟩,hb⟩;rw[qi4];have HX:=zH hx;have hg:=(show Hid _ from(hb.block w.heap.size (by simp)).trans HR.out);have He:=zH (he.out.trans (hb.mono he.out.size));clear hx hb HR he H1;have Hb:w.heap.size<w2.heap.size:=(ya.1 hg.out).1;by_cases hc:f.code=0
 rotate_left
 ·have Hk:((f.code:Int) != 0)=true:=by rw[bne_iff_ne];omega
  have HC:=zH hc;clear hc;go_wp2_with fail
  have Ha:((w2.alloc (.cells #[.slice ao n cap] 77)).alloc (.cells #[zI (f.code:Nat),zI f.kind,zV f.place,zI (f.pos:Nat)] 31)).heap[w.heap.size]?=zK #[zI 0,zI 0,zS,zI 0] 31:=(xJ _ _ (by simp;omega)).trans ((xJ _ _ Hb).trans hg.out);have Hf:((w2.alloc (.cells #[.slice ao n cap] 77)).alloc (.cells #[zI (f.code:Nat),zI f.kind,zV f.place,zI (f.pos:Nat)] 31)).heap[w2.heap.size+1]?=zK #[zI (f.code:Nat),zI f.kind,zV f.place,zI (f.pos:Nat)] 31:=qap _ _ _ (by simp);have hj:=(show Hid _ from(He.out.alloc He.out.size (.cells #[.slice ao n cap] 77)).alloc (by simp;omega) (.cells #[zI (f.code:Nat),zI f.kind,zV f.place,zI (f.pos:Nat)] 31));have e1:w2.heap.size+1≠w.heap.size:=by omega
  generalize w2.heap.size+1=E at Hf e1 |-;generalize World.alloc (World.alloc w2 _) _=w4 at Hf Ha hj |-;have x0:=al (qaa Ha);have y0:w4.frozen? (zO w.heap.size 0)=false:=by simp[World.frozen?,Ha]
  have y1:w4.frozen? (zO w.heap.size 1)=false:=by simp[World.frozen?,Ha]
  have y2:w4.frozen? (zO w.heap.size 2)=false:=by simp[World.frozen?,Ha]
  have y3:w4.frozen? (zO w.heap.size 3)=false:=by simp[World.frozen?,Ha]
  have l0:=al (qaa Hf);have hl:=zH Ha;clear Hf Ha Hb;go_region
  all_goals
   go_wp2_with fail
   have hf:=qhg hl.out (zI (f.code:Nat)) (zI f.kind) (zV f.place) (zI (f.pos:Nat));have hb:=(((hj.out.setCell (p:=zO w.heap.size 0) (yg _) (zI (f.code:Nat))).setCell (p:=zO w.heap.size 1) (yg _) (zI f.kind)).setCell (p:=zO w.heap.size 2) (yg _) (zV f.place)).setCell (p:=zO w.heap.size 3) (yg _) (zI (f.pos:Nat));refine qfb results12 rfl w.heap.size (.pointer none) _ rfl rfl hf _ underlying31 rfl (by kernel_rfl) ?_;exact⟨⟨_,rfl,fun _=>rfl,fun q=>absurd q HC.out⟩,hb.drew⟩
 ·have Hk:((f.code:Int) != 0)=false:=by rw[hc];rfl
  have HC:Hid (f=Ft.none):=HN.out hc;obtain⟨B,F,M,s,h1,h2,h3⟩:=HX.out hc;have Hl:=zH h2;have Hm:=zH h3;have Hn:Hid (w.heap.size<=B):=yh (by simp) h1;have ha:∀o o' o'',(((w2.alloc o).alloc o').alloc o'').heap[w.heap.size]?=zK #[zI 0,zI 0,zS,zI 0] 31:=fun o o' o''=>(xJ _ _ (by simp;omega)).trans ((xJ _ _ (by simp;omega)).trans ((xJ _ _ Hb).trans hg.out));have x0:=fun o o' o''=>al (qaa (ha o o' o''));have y0:∀o o' o'',(((w2.alloc o).alloc o').alloc o'').frozen? (zO w.heap.size 0)=false:=fun o o' o''=>by simp[World.frozen?,ha o o' o'']
  have y1:∀o o' o'',(((w2.alloc o).alloc o').alloc o'').frozen? (zO w.heap.size 1)=false:=fun o o' o''=>by simp[World.frozen?,ha o o' o'']
  have y2:∀o o' o'',(((w2.alloc o).alloc o').alloc o'').frozen? (zO w.heap.size 2)=false:=fun o o' o''=>by simp[World.frozen?,ha o o' o'']
  have y3:∀o o' o'',(((w2.alloc o).alloc o').alloc o'').frozen? (zO w.heap.size 3)=false:=fun o o' o''=>by simp[World.frozen?,ha o o' o'']
  have ho:=zH ha;have Ho:=zH Hb;clear hc h1 h2 h3 HX ha Hb;go_wp2_with fail
  have Hg:=((((xM w2.heap.size w2).alloc (yg _) (.cells #[.slice ao n cap] 77)).alloc (by simp) (.cells #[zI (f.code:Nat),zI f.kind,zV f.place,zI (f.pos:Nat)] 31)).alloc (by simp;omega) (.cells #[.slice ao n cap] 81));have hi:=qap ((w2.alloc (.cells #[.slice ao n cap] 77)).alloc (.cells #[zI (f.code:Nat),zI f.kind,zV f.place,zI (f.pos:Nat)] 31)) (.cells #[.slice ao n cap] 81) (w2.heap.size+1+1) (by simp);have ha:=ho.out (.cells #[.slice ao n cap] 77) (.cells #[zI (f.code:Nat),zI f.kind,zV f.place,zI (f.pos:Nat)] 31) (.cells #[.slice ao n cap] 81);have Hj:=Hl.out.below Hg;have hk:=He.out.trans (Hg.mono He.out.size);have Hc:w2.heap.size+1+1≠w.heap.size:=by have:=Ho.out;omega
  clear Hg x0 y0 y1 y2 y3;generalize w2.heap.size+1+1=G at hi Hc |-;generalize World.alloc (World.alloc (World.alloc w2 _) _) _=w5 at hi ha Hj hk |-;have hf:=qhg ha (zI 0) (zI 0) (zS) (zI 0);have hv:=Hj.fault4 ha (zI 0) (zI 0) (zS) (zI 0);have hb:=(((hk.setCell (p:=zO w.heap.size 0) (yg _) (zI 0)).setCell (p:=zO w.heap.size 1) (yg _) (zI 0)).setCell (p:=zO w.heap.size 2) (yg _) (zS)).setCell (p:=zO w.heap.size 3) (yg _) (zI 0);have ht:((((w5.setCell (zO w.heap.size 0) (zI 0)).setCell (zO w.heap.size 1) (zI 0)).setCell (zO w.heap.size 2) (zS)).setCell (zO w.heap.size 3) (zI 0)).heap[G]?=_:=(xL _ _ _ _ Hc).trans ((xL _ _ _ _ Hc).trans ((xL _ _ _ _ Hc).trans ((xL _ _ _ _ Hc).trans hi)));refine qfb results12 rfl w.heap.size (zP G) _ rfl rfl hf _ underlying31 rfl (by kernel_rfl) ?_;refine⟨⟨_,by rw[HC.out];rfl,fun q=>absurd (by rw[HC.out];rfl) q,fun _=>⟨G,F,.slice ao n cap,M,s,B,rfl,?_,Hn.out,hv,Hm.out⟩⟩,hb⟩;exact ht
end
theorem zh9{S:List Src}{len:Nat}(hS:SrcsOk S)(h:(qew S len).2.code=0)(e:Ev)(he:e.S=S)(hv:e.vis=(qew S len).1):e.Ok/\0<e.vis.length/\e.vis.length<=257/\∀v p,p∈e.parts v->p.text.length<=2000:=by
 obtain⟨s,hk,hs,Hf,u0,hg,_⟩:=zfm (yh hS.few.1 (yg _)) h;have ha:=(qo7 S 258 Sr.zero (0,Sx.start) (qus hS) (by decide)).1;have Hg:s=qev S 258 Sr.zero (0,Sx.start):=Hf;rw[<-Hg]at ha;have hb:e.vis=s.vis:=hv.trans hs.symm;have Hc:s.vis.length<=257:=by
  have h1:=ha.few;have h2:=ha.ends.few;have h3:=ha.vis;omega
 have Hb:∀(v:Nat) (x:Nat×List Int),e.vis[v]?=some x->e.parts v=qah S x.1:=fun v x hx=>by
  unfold Ev.parts qah;rw[hx,he];rfl
 have hc:∀(v:Nat),e.vis[v]?=none->e.parts v=[]:=fun v hx=>by unfold Ev.parts;rw[hx]
 have Ha:∀(v:Nat) (x:Nat×List Int),e.vis[v]?=some x->∃a:Src,S[x.1]?=some a/\qah S x.1=a.parts:=fun v x hx=>by
  rw[hb]at hx;have h1:=(hk.vis v x hx).1;exact⟨S[x.1],yc h1,by unfold qah;rw[yc h1]⟩
 refine⟨⟨fun v x hx=>?_,fun v i p hp He=>?_,fun v i p hp He=>?_,by rw[hb];omega,fun v=>?_⟩,by rw[hb];have:=(yb.1 hg).1;omega,by rw[hb];exact Hc,fun v p hp=>?_⟩
 ·obtain⟨a,h1,h2⟩:=Ha v x hx
  rw[hb]at hx;have h3:=(hk.vis v x hx).2.1;rw[h2]at h3;exact⟨a,by rw[he];exact h1,h3⟩
 ·cases hx:e.vis[v]? with
  |none=>rw[hc v hx]at hp;simp at hp
  |some x=>
    obtain⟨a,h1,h2⟩:=Ha v x hx;rw[Hb v x hx,h2]at hp |-;have:=za1 (hS.wf _ a h1) i p hp He;omega
 ·cases hx:e.vis[v]? with
  |none=>rw[hc v hx]at hp;simp at hp
  |some x=>
    rw[Hb v x hx]at hp;have hf:=hx;rw[hb]at hf;obtain⟨_,h2,h3⟩:=hk.vis v x hf;have hm:e.marks v=x.2:=by unfold Ev.marks;rw[hx]
    have hi:i<x.2.length:=by rw[h2];exact(yb.1 hp).1
    rw[hm,xy,yc hi,hb];exact h3 i p _ hp He (yc hi)
 ·cases hx:e.vis[v]? with
  |none=>rw[hc v hx];simp
  |some x=>
    obtain⟨a,h1,h2⟩:=Ha v x hx;rw[Hb v x hx,h2];have:=(hS.parts _ a h1).1;omega
 ·cases hx:e.vis[v]? with
  |none=>rw[hc v hx]at hp;cases hp
  |some x=>
    obtain⟨a,h1,h2⟩:=Ha v x hx;rw[Hb v x hx,h2]at hp;exact((hS.parts _ a h1).2 p hp).1
theorem qqt(t:zU)(P:List (zU×zU))(h:(qc5 t P).2.code=0)(e:Ev)(he:e.S=(qc5 t P).1.2)(hv:e.vis=(qc5 t P).1.1):e.Ok/\0<e.vis.length/\e.vis.length<=257/\∀v p,p∈e.parts v->p.text.length<=2000:=by
 unfold qc5 at h he hv;split at h
 ·cases h
 ·rename_i q1
  rw[if_neg q1]at he hv;split at h
  ·rename_i q2;exact absurd h q2
  ·rename_i q2
   rw[if_neg q2]at he hv;split at h
   ·rename_i q3;exact absurd h q3
   ·rename_i q3
    rw[if_neg q3]at he hv;have hc:(qa5 (([],t)::P)).1.code=0:=by simpa using q2
    have ha:qhn (P.map (·.1))=true:=by
     cases hx:qhn (P.map (·.1))with
     |true=>rfl
     |false=>exact absurd (.inr hx) q1
    exact zh9 (q0d t P (by have:=fun q=>q1 (.inl q);omega) ha hc) (by simpa using q3) e he hv
end Go.Proofs.YtfkhljmiehdgmaaGreatDoor
