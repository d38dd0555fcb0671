/-
  Steps of the proof.
-/
import Derived.Test.YtfkhljmiehdgmaaGreatDoorCuBR
import Derived.Test.YtfkhljmiehdgmaaGreatDoorCuAZ
import Derived.Laws.AppendOwnNone
set_option maxRecDepth 100000
set_option maxHeartbeats 40000000
namespace Go.Proofs.YtfkhljmiehdgmaaGreatDoor
open Go.RowKit Go.Proofs.Tryz Pl
variable{B:Nat}{w w':World}
def qe6(e:Et):List Value:=(qcj e.n e.x.view).toList++((qan e.p).toList++[.bool e.ok])
def qh7(E:List Et):List Value:=E.flatMap qe6
theorem q1s(E:List Et):(qh7 E).length=E.length*17:=by
 induction E with
 |nil=>rfl
 |cons p L ih=>show(qh7 L).length+17=_;rw[ih,yK];omega
theorem qye(L:List Et)(p:Et):qh7 (L++[p])=qh7 L++qe6 p:=by simp[qh7]
theorem qnw:∀(L:List Et) (k:Nat) (p:Et),L[k]?=some p->∀(j:Nat) (v:Value),(qe6 p)[j]?=some v->(qh7 L)[k*17+j]?=some v
 |[],k,p,e=>by simp at e
 |q::L,0,p,e=>by
   simp only[yS,Option.some.injEq]at e;subst e;intro j v hv;show(qe6 q++qh7 L)[0*17+j]?=some v;rw[Nat.zero_mul,xf,yr (yb.1 hv).1];exact hv
 |q::L,k+1,p,e=>by
   intro j v hv;have:=qnw L k p (by simpa using e) j v hv;show(qe6 q++qh7 L)[(k+1)*17+j]?=some v;rw[yt (by simp[qe6,qcj,qan];omega)];have e:(k+1)*17+j - (qe6 q).length=k*17+j:=by simp[qe6,qcj,qan];omega
   rw[e];exact this
def qcv(W:List Vt):List Value:=W.flatMap fun u=>(qcj u.1 u.2.view).toList
theorem qlg(W:List Vt):(qcv W).length=W.length*10:=by
 induction W with
 |nil=>rfl
 |cons p L ih=>show(qcv L).length+10=_;rw[ih,yK];omega
theorem qn6(L:List Vt)(u:Vt):qcv (L++[u])=qcv L++(qcj u.1 u.2.view).toList:=by simp[qcv]
theorem qsc:∀(L:List Vt) (k:Nat) (u:Vt),L[k]?=some u->∀(j:Nat) (v:Value),(qcj u.1 u.2.view).toList[j]?=some v->(qcv L)[k*10+j]?=some v
 |[],k,p,e=>by simp at e
 |q::L,0,p,e=>by
   simp only[yS,Option.some.injEq]at e;subst e;intro j v hv;show((qcj q.1 q.2.view).toList++qcv L)[0*10+j]?=some v;rw[Nat.zero_mul,xf,yr (yb.1 hv).1];exact hv
 |q::L,k+1,p,e=>by
   intro j v hv;have:=qsc L k p (by simpa using e) j v hv;show((qcj q.1 q.2.view).toList++qcv L)[(k+1)*10+j]?=some v;rw[yt (by simp[qcj];omega)];have e:(k+1)*10+j - ((qcj q.1 q.2.view).toList).length=k*10+j:=by simp[qcj];omega
   rw[e];exact this
structure Ck(B:Nat)(w w':World):Prop where
 below:Below B w w'
 keep:∀(k:Nat) (cs:Array Value) (t:TypeId) (fz:Nat×Nat),w.heap[k]?=some (.cells cs t fz)->t≠201->t≠101->w'.heap[k]?=w.heap[k]?
theorem Ck.refl(B:Nat)(w:World):Ck B w w:=⟨xL _ _,fun _ _ _ _ _ _ _=>rfl⟩
theorem Ck.trans{a b c:World}(h:Ck B a b)(k:Ck B b c):Ck B a c:=
 ⟨h.below.trans k.below,fun i cs t fz hi h1 h2=>(k.keep i cs t fz ((h.keep i cs t fz hi h1 h2).trans hi) h1 h2).trans (h.keep i cs t fz hi h1 h2)⟩
theorem Ck.of_below(h:zW w w')(hB:B<=w.heap.size):Ck B w w':=
 ⟨h.mono hB,fun k _ _ _ hk _ _=>h.block k (ya.1 hk).1⟩
structure EnAt(w:World)(B g:Nat)(S:List Src)(N:List zT)(pv:Nat->Value)(RL:Nat->List Rm)(vp ve:Value)(E:List Et):Prop where
 tp:TpAt w B g S N pv RL vp ve
 ends:w.ownsRow B 201 17 ve E.length (qh7 E)
theorem EnAt.kept{g:Nat}{S:List Src}{N:List zT}{pv:Nat->Value}{RL:Nat->List Rm}{vp ve:Value}{E:List Et}(h:EnAt w B g S N pv RL vp ve E)(hb:zW w w'):EnAt w' B g S N pv RL vp ve E:=
 ⟨h.tp.kept hb,qab h.ends fun k hk=>hb.block k (h.ends.lt k hk).2⟩
theorem qpp(B:Nat)(vW:Value)(W:List Vt)(n:Nat)(x:Sx)(w:World)(hl:W.length<=1000000000000)(h:w.ownsRow B 143 10 vW W.length (qcv W))(hW:∀u∈W,Cm u.2)(hx:Cm x) :
  zC 57 #[vW,qfv n x.view] w fun e w'=>(∃b:Bool,e=.returned (.bool b)/\(b=true↔(n,x)∈W))/\zW w w':=by
 by_cases h0:W.length=0
 ·have e:W=[]:=yC h0
  subst e;rcases h.2 with⟨rfl,_⟩|⟨g,cap,cur,rfl,_,hg,_⟩
  ·refine(qzu n x.view w).mono ?_
   rintro e w' ⟨rfl,hb⟩;exact⟨⟨false,rfl,by simp⟩,hb⟩
  ·refine(qpo g cap [] n x.view w (yH _) ⟨fun i y hy=>by simp at hy,(ya.1 hg).1⟩).mono ?_
   rintro e w' ⟨⟨b,rfl,hb⟩,ha⟩;exact⟨⟨b,rfl,hb.trans (by simp)⟩,ha⟩
 obtain⟨g,cap,rfl,_,Ha⟩:=qai h (by omega);have hv:VisAt w g (W.map fun u=>((u.1:Int),u.2.view)):=by
  refine⟨fun i y hy j v hj=>?_,Ha⟩;rw[yz]at hy;obtain⟨u,hu,rfl⟩:=yy.1 hy;have hc:=qsc W i u hu j v hj;have hi:=(yb.1 hc).1;rw[qlg]at hi;rw[World.ownsRow.cellAt h (i*10+j) hi];exact hc
 have:=qpo g cap _ n x.view w (by rw[yR];exact hl) hv;rw[yR]at this;refine this.mono ?_;rintro e w' ⟨⟨b,rfl,hb⟩,ha⟩;exact⟨⟨b,rfl,hb.trans (zhn hW hx)⟩,ha⟩
theorem q8i(g:Nat)(vp:Value)(x:zT)(w:World)(hv:vp=zN\/∃a c,vp=.slice (some a) 0 c)(h:w.cell? (zO g 1)=some vp) :
  zC 56 #[zP g,.string x] w fun e w'=>e=.returned (zI (-1))/\w'=w:=by
 rcases hv with rfl|⟨a,c,rfl⟩
 all_goals
  go_enter func56,ntmps56
  go_wp2
  go_loopw [5] (fun i wr=>i=zI 0/\wr=w) (fun _ _=>0)
  case atStart=>exact⟨rfl,rfl⟩
  case round=>
   obtain⟨rfl,rfl⟩:=hrel;go_wp2
   go_ret
   exact⟨rfl,rfl⟩
theorem q1k{N:List zT}{x:zT}{r:Int}(h:qv8 x N r):(r=-1/\qfr (N.map fun y=>y.data.toList) x.data.toList=none)\/∃k:Nat,r=k/\qfr (N.map fun y=>y.data.toList) x.data.toList=some k:=by
 have hi:∀(a b:zT),a.data.toList=b.data.toList->a=b:=fun a b e=>xi (Array.toList_inj.1 e);rcases h with⟨k,rfl,hk,ha⟩|⟨rfl,Ha⟩
 ·right
  refine⟨k,rfl,?_⟩;unfold qfr;rw[List.findIdx?_eq_some_iff_getElem];have hb:=(yb.1 hk);obtain⟨hl,he⟩:=hb;refine⟨by rw[yR];exact hl,by simp[he],fun j hj=>?_⟩;simp only[List.getElem_map,yF];intro e;exact ha j hj (by rw[yc (by omega),hi _ _ e])
 ·left
  refine⟨rfl,?_⟩;unfold qfr;rw[List.findIdx?_eq_none_iff];intro y hy;obtain⟨z,hz,rfl⟩:=xq.1 hy;simp only[yf];intro e;obtain⟨j,hj,rfl⟩:=List.getElem_of_mem hz;exact Ha j (by rw[yc hj,hi _ _ e])
theorem q8h(x:zT){w:World}{B g:Nat}{S:List Src}{N:List zT}{pv:Nat->Value}{RL:Nat->List Rm}{vp ve:Value}(h:TpAt w B g S N pv RL vp ve)(hN:N.length<=100000) :
  zC 56 #[zP g,.string x] w fun e w'=>(∃r:Int,e=.returned (zI r)/\((r=-1/\qfr (N.map fun y=>y.data.toList) x.data.toList=none)\/∃k:Nat,r=k/\qfr (N.map fun y=>y.data.toList) x.data.toList=some k))/\w'=w:=by
 have h1:=qaa h.blk 1 _ rfl;by_cases h0:N.length=0
 ·have e:N=[]:=yC h0
  subst e;refine(q8i g vp x w ?_ h1).mono ?_
  ·rcases h.parts.2 with ⟨e,_⟩ | ⟨g',cap,cur,e,_⟩
   ·exact .inl e
   ·exact .inr ⟨_,_,e⟩
  ·rintro e w' ⟨rfl,hw⟩
   exact⟨⟨-1,rfl,.inl ⟨rfl,rfl⟩⟩,hw⟩
 ·obtain⟨b,cap,rfl,_,_⟩:=qai h.parts (by omega)
  refine(zbz g b N x w hN ⟨⟨cap,h1⟩,fun i y hy=>?_⟩).mono ?_
  ·have hc:=(qki pv N 1 i y hy).1
   have hi:=(yb.1 hc).1;rw[qir]at hi;rw[World.ownsRow.cellAt h.parts (i*2) hi];exact hc
  ·rintro e w' ⟨⟨r,rfl,hr⟩,hw⟩
   exact⟨⟨r,rfl,q1k hr⟩,hw⟩
variable{w0 wr w' w:World}{W R:List Vt}{vW ve':Value}{p':Sp}{E' E:List Et}{g r r' n i:Nat}{x x':Sx}{P:List Pt}{pre:List It}
structure Sk where
 B:Nat
 g:Nat
 S:List Src
 N:List zT
 pv:Nat->Value
 RL:Nat->List Rm
 vp:Value
def Sk.nm(K:Sk):List zU:=K.N.map fun y=>y.data.toList
def Sk.bd(K:Sk)(n:Nat):List It:=Pl.its K.nm (qah K.S (n+1))
structure SkOk(K:Sk):Prop where
 six:K.N.length<=6
 len:K.S.length=K.N.length+1
 ok:SrcsOk K.S
abbrev Sk.at_(K:Sk)(w:World)(ve:Value)(E:List Et):Prop:=EnAt w K.B K.g K.S K.N K.pv K.RL K.vp ve E
structure EdP(K:Sk)(R:List Vt)(w w':World)(E:List Et)(W:List Vt)(n:Nat)(x:Sx)(r more:Nat)(p':Sp)(ok:Bool)(ve':Value)(E':List Et)(r':Nat):Prop where
 at_:K.at_ w' ve' E'
 inv:EInv K.bd R r' E' W
 sp:SpOk r' p'
 len:E.length<=E'.length
 up:r<=r'
 le:r'<=r+4000000*(E'.length - E.length)+more
 yes:ok=true->∃y,Done K.bd n x y/\ParX y p'/\Cm y
 no:ok=false->∀y,¬Done K.bd n x y
 ck:Ck K.B w w'
def EdO(K:Sk)(R:List Vt)(w:World)(E:List Et)(W:List Vt)(n:Nat)(x:Sx)(r more:Nat)(e:Ending)(w':World):Prop:=
 ∃p' ok ve' E' r',e=.returned (.tuple #[qaz p',.bool ok])/\EdP K R w w' E W n x r more p' ok ve' E' r'
def EndC(K:Sk)(R:List Vt)(k:Nat):Prop:=∀(w:World) (ve vW:Value) (E:List Et) (W:List Vt) (n:Nat) (x:Sx) (p:Sp) (r:Nat),
 K.at_ w ve E->w.ownsRow K.B 143 10 vW W.length (qcv W)->EInv K.bd R r E W->Cm x->ParX x p->SpOk r p->n<K.N.length->InS K.bd R (n,x)->(n,x)∉W->(∀u∈W,Need K.bd u (n,x))->K.B<=w.heap.size ->
 429926418001<=E.length+W.length+k->r+4000000*(429926418001 - (E.length+W.length))<=1900000000000000000 ->
 zC 58 #[zP K.g,zI n,qaz p,vW] w fun e w'=>EdO K R w E W n x r 0 e w'
def zhw(K:Sk)(R:List Vt)(k:Nat):Prop:=∀(w:World) (ve vW:Value) (E:List Et) (W:List Vt) (n:Nat) (x:Sx) (p:Sp) (r:Nat),
 K.at_ w ve E->w.ownsRow K.B 143 10 vW W.length (qcv W)->EInv K.bd R r E W->Cm x->ParX x p->SpOk r p->n<K.N.length->InS K.bd R (n,x)->(∀u∈W,u=(n,x)\/Need K.bd u (n,x))->K.B<=w.heap.size ->
 429926418001<=E.length+W.length+k->r+4000000*(429926418002 - (E.length+W.length))<=1900000000000000000 ->
 zC 89 #[zP K.g,K.pv (n+1),qaz p,vW] w fun e w'=>EdO K R w E W n x r 4000000 e w'
structure Enm(K:Sk)(w0 wr:World)(W:List Vt)(vW:Value)(p':Sp)(ve':Value)(E':List Et):Prop where
 spot:wr.heap[w0.heap.size]?=zK (qan p') 94
 res:wr.heap[w0.heap.size+1]?=zK #[zI 0,zS,zS,zS,zS,zI 0] 94
 at_:K.at_ wr ve' E'
 wi:wr.ownsRow K.B 143 10 vW W.length (qcv W)
 ck:Ck K.B w0 wr
theorem Enm.lt{K:Sk}(h:Enm K w0 wr W vW p' ve' E'):w0.heap.size+1<wr.heap.size:=(zL h.res)
theorem Enm.kept{K:Sk}(h:Enm K w0 wr W vW p' ve' E')(hb:zW wr w')(hB:K.B<=wr.heap.size):Enm K w0 w' W vW p' ve' E':=by
 have hl:=h.lt;exact⟨(hb.block _ (by omega)).trans h.spot,(hb.block _ hl).trans h.res,h.at_.kept hb,qab h.wi fun q hq=>hb.block q (h.wi.lt q hq).2,h.ck.trans (Ck.of_below hb hB)⟩
theorem Enm.ended{K:Sk}{ve'':Value}{E'':List Et}(h:Enm K w0 wr W vW p' ve' E')(ha:Ck K.B wr w')(Ha:K.at_ w' ve'' E''):Enm K w0 w' W vW p' ve'' E'':=by
 refine⟨(ha.keep _ _ _ _ h.spot (by decide) (by decide)).trans h.spot,(ha.keep _ _ _ _ h.res (by decide) (by decide)).trans h.res,Ha,qab h.wi fun q hq=>?_,h.ck.trans ha⟩;obtain⟨cur,hc⟩:=qac h.wi q hq;exact ha.keep _ _ _ _ hc (by decide) (by decide)
theorem qc0{k:Nat}(hk:k≠g)(v0 v1 v2 v3 v4 v5:Value):(set6 w g v0 v1 v2 v3 v4 v5).heap[k]?=w.heap[k]?:=
 (xK _ _ _ _ hk).trans ((xK _ _ _ _ hk).trans ((xK _ _ _ _ hk).trans ((xK _ _ _ _ hk).trans ((xK _ _ _ _ hk).trans (xK _ _ _ _ hk)))))
theorem qmz{t:TypeId}{u0 u1 u2 u3 u4 u5:Value}(h:w.heap[g]?=zK #[u0,u1,u2,u3,u4,u5] t)(v0 v1 v2 v3 v4 v5:Value):(set6 w g v0 v1 v2 v3 v4 v5).heap[g]?=zK #[v0,v1,v2,v3,v4,v5] t:=by
 have h1:=xG w g 0 _ _ v0 h;have h2:=xG _ g 1 _ _ v1 h1;have h3:=xG _ g 2 _ _ v2 h2;have h4:=xG _ g 3 _ _ v3 h3;have h5:=xG _ g 4 _ _ v4 h4;exact xG _ g 5 _ _ v5 h5
theorem Enm.set{K:Sk}(h:Enm K w0 wr W vW p' ve' E')(hB:K.B<=w0.heap.size)(q:Sp):Enm K w0 (set6 wr w0.heap.size (zI q.mode) (zV q.tag) (zV q.attr) (zV q.inside) (zV q.run) (zI q.far)) W vW q ve' E':=by
 have Ha:∀(k:Nat) (cs:Array Value) (t:TypeId) (fz:Nat×Nat),wr.heap[k]?=some (.cells cs t fz)->t≠94->(set6 wr w0.heap.size (zI q.mode) (zV q.tag) (zV q.attr) (zV q.inside) (zV q.run) (zI q.far)).heap[k]?=wr.heap[k]?:=fun k cs t fz hk ht=>qc0 (qae hk h.spot ht) _ _ _ _ _ _;have ha:∀(e:TypeId) (sz n:Nat) (v:Value) (xs:List Value),wr.ownsRow K.B e sz v n xs->e≠94->(set6 wr w0.heap.size (zI q.mode) (zV q.tag) (zV q.attr) (zV q.inside) (zV q.run) (zI q.far)).ownsRow K.B e sz v n xs:=fun e sz n v xs hv he=>qab hv fun k hk=>by
  obtain⟨cur,hc⟩:=qac hv k hk;exact Ha _ _ _ _ hc he
 refine⟨qmz h.spot _ _ _ _ _ _,(qc0 (by omega) _ _ _ _ _ _).trans h.res,⟨⟨(Ha _ _ _ _ h.at_.tp.blk (by decide)).trans h.at_.tp.blk,h.at_.tp.le,ha _ _ _ _ _ h.at_.tp.parts (by decide),fun i s hs=>⟨ha _ _ _ _ _ (h.at_.tp.row i s hs).1 (by decide),(h.at_.tp.row i s hs).2⟩⟩,ha _ _ _ _ _ h.at_.ends (by decide)⟩,ha _ _ _ _ _ h.wi (by decide),qb9 h.ck.below hB _ _ _ _ _ _,fun k cs t fz hk h1 h2=>(qc0 (by have:=(ya.1 hk).1;omega) _ _ _ _ _ _).trans (h.ck.keep k cs t fz hk h1 h2)⟩
theorem Enm.drew{K:Sk}(h:Enm K w0 wr W vW p' ve' E'):Enm K w0 wr.drew W vW p' ve' E':=
 ⟨h.spot,h.res,⟨h.at_.tp.drew,qab h.at_.ends fun _ _=>rfl⟩,qab h.wi fun _ _=>rfl,h.ck.below.drew,h.ck.keep⟩
structure Enp(K:Sk)(R:List Vt)(E:List Et)(W:List Vt)(n:Nat)(x:Sx)(r:Nat)(P:List Pt)(i:Nat)(p':Sp)(x':Sx)(E':List Et)(r':Nat)(pre:List It):Prop where
 inv:EInv K.bd R r' E' W
 cm:Cm x'
 par:ParX x' p'
 sp:SpOk r' p'
 via:Via K.bd pre x x'
 its:K.bd n=pre++qd9 K.nm P i
 le:i<=P.length
 len:E.length<=E'.length
 up:r<=r'
 few:r'<=r+4000000*(E'.length - E.length)+2000*i
theorem q94{B:Nat->List It}(h:EInv B R r E W)(hr:r<=r'):EInv B R r' E W:=⟨fun e he=>(h.each e he).le hr,h.apart,h.wins⟩
theorem Enp.text{K:Sk}(h:Enp K R E W n x r P i p' x' E' r' pre){q:Pt}(hq:P[i]?=some q)(hk:q.kind=1)(hl:q.text.length<=2000) :
  Enp K R E W n x r P (i+1) (qei p' q.text) (qax x' q.text) E' (r'+q.text.length) (pre++[.tx q.text]):=by
 have h1:=(yb.1 hq).1;have:=h.few;have:=h.up;exact⟨q94 h.inv (by omega),zaj _ _ h.cm,qx6 _ _ _ h.cm.fit.fit.ok h.par,spFromOk _ _ _ h.sp,qpq h.via (zgs _ _ _),by rw[h.its,qxq hq hk,yq];rfl,by omega,h.len,by omega,by omega⟩
theorem Enp.hole{K:Sk}(h:Enp K R E W n x r P i p' x' E' r' pre){q:Pt}(hq:P[i]?=some q)(hk:q.kind=2) :
  Enp K R E W n x r P (i+1) p'.behindHole x'.behindHole E' r' (pre++[.ho]):=by
 have h1:=(yb.1 hq).1;have:=h.few;refine⟨h.inv,zai h.cm,qhl _ _ h.cm.fit.fit.ok h.par,?_,qpq h.via (zgt _ _),by rw[h.its,qxr hq hk,yq];rfl,by omega,h.len,h.up,by omega⟩;unfold Sp.behindHole;split
 ·exact⟨h.sp.mode,h.sp.tag,h.sp.attr,h.sp.inside,h.sp.run⟩
 ·exact h.sp
theorem Enp.over{K:Sk}(h:Enp K R E W n x r P i p' x' E' r' pre){j:Nat}(hj:i<=j)(hl:j<P.length)(he:qd9 K.nm P i=qd9 K.nm P (j+1)) :
  Enp K R E W n x r P (j+1) p' x' E' r' pre:=by
 have:=h.few;exact⟨h.inv,h.cm,h.par,h.sp,h.via,by rw[h.its,he],by omega,h.len,h.up,by omega⟩
theorem Enp.call{K:Sk}(h:Enp K R E W n x r P i p' x' E' r' pre){q:Pt}(hq:P[i]?=some q)(hk:q.kind=6){m:Nat}(hn:qfr K.nm q.text=some m)
  {p5:Sp} {y:Sx} {E5:List Et} {r5:Nat} (hd:Done K.bd m x' y) (hp:ParX y p5) (hc:Cm y) (hi:EInv K.bd R r5 E5 W) (hs:SpOk r5 p5) (hl:E'.length<=E5.length) (hu:r'<=r5) (hr:r5<=r'+4000000*(E5.length - E'.length)+0) :
  Enp K R E W n x r P (i+1) p5 y E5 r5 (pre++[.ca m]):=by
 have h1:=(yb.1 hq).1;have:=h.few;have:=h.len;have:=h.up;exact⟨hi,hc,hp,hs,qpq h.via (q64 hd),by rw[h.its,qta hq hk hn,yq];rfl,by omega,by omega,by omega,by omega⟩
theorem q3e{N:List zU}{x:zU}{m:Nat}(h:qfr N x=some m):m<N.length:=by
 unfold qfr at h;rw[List.findIdx?_eq_some_iff_getElem]at h;exact h.1
theorem Enp.named{K:Sk}(h:Enp K R E W n x r P i p' x' E' r' pre){q:Pt}(hq:P[i]?=some q)(hk:q.kind=6){m:Nat}(hn:qfr K.nm q.text=some m)(hP:K.bd n=Pl.its K.nm P)(hl:P.length<=2000)(h6:K.N.length<=6)(ha:InS K.bd R (n,x))(hx:Cm x) :
  m<K.N.length/\InS K.bd R (m,x')/\Need K.bd (n,x) (m,x'):=by
 have hm:m<K.N.length:=by
  have:=q3e hn;unfold Sk.nm at this
  rwa [yR]at this
 have he:K.bd n=pre++.ca m::qd9 K.nm P (i+1):=by rw[h.its,qta hq hk hn]
 refine⟨hm,zfw (k:=pre.length) ha hx.fit ?_ ⟨?_,?_⟩ (by show m<6;omega) h.cm.fit.fit.ok.st.name,zfj he h.via⟩
 ·show (K.bd n).length<=2000
  rw[hP];exact yh (qmu _ _ _ _) hl
 ·show (K.bd n)[pre.length]?=_
  rw[he,yt (yg _),xz];rfl
 ·show Via K.bd ((K.bd n).take pre.length) x x'
  rw[he,List.take_left']
  ·exact h.via
  ·rfl
variable{K:Sk}{W:List Vt}{vW:Value}
theorem Enm.out{w0 wr:World}{p':Sp}{ve':Value}{E':List Et}(h:Enm K w0 wr W vW p' ve' E')(hB:K.B<=w0.heap.size)(v0 v1 v2 v3 v4 v5:Value):K.at_ (set6 wr (w0.heap.size+1) v0 v1 v2 v3 v4 v5) ve' E'/\Ck K.B w0 (set6 wr (w0.heap.size+1) v0 v1 v2 v3 v4 v5):=by
 have Ha:∀(k:Nat) (cs:Array Value) (t:TypeId) (fz:Nat×Nat),wr.heap[k]?=some (.cells cs t fz)->t≠94->(set6 wr (w0.heap.size+1) v0 v1 v2 v3 v4 v5).heap[k]?=wr.heap[k]?:=fun k cs t fz hk ht=>qc0 (qae hk h.res ht) _ _ _ _ _ _;have ha:∀(e:TypeId) (sz n:Nat) (v:Value) (xs:List Value),wr.ownsRow K.B e sz v n xs->e≠94->(set6 wr (w0.heap.size+1) v0 v1 v2 v3 v4 v5).ownsRow K.B e sz v n xs:=fun e sz n v xs hv he=>qab hv fun k hk=>by
  obtain⟨cur,hc⟩:=qac hv k hk;exact Ha _ _ _ _ hc he
 exact⟨⟨⟨(Ha _ _ _ _ h.at_.tp.blk (by decide)).trans h.at_.tp.blk,h.at_.tp.le,ha _ _ _ _ _ h.at_.tp.parts (by decide),fun i s hs=>⟨ha _ _ _ _ _ (h.at_.tp.row i s hs).1 (by decide),(h.at_.tp.row i s hs).2⟩⟩,ha _ _ _ _ _ h.at_.ends (by decide)⟩,qb9 h.ck.below (by omega) _ _ _ _ _ _,fun k cs t fz hk h1 h2=>(qc0 (by have:=(ya.1 hk).1;omega) _ _ _ _ _ _).trans (h.ck.keep k cs t fz hk h1 h2)⟩
theorem qvp{R:List Vt}{w w5:World}{E:List Et}{n:Nat}{x:Sx}{r:Nat}{p5:Sp}{ve5:Value}{E5:List Et}{r5:Nat}{ok:Bool}{a:Act}(hB:K.B<=w.heap.size)(hm:Enm K w w5 W vW p5 ve5 E5)(ha:EInv K.bd R r5 E5 W)(Hb:SpOk r5 p5)(Ha:E.length<=E5.length)(hc:r<=r5)(Hc:r5<=r+4000000*(E5.length - E.length)+4000000)
  (hb:ok=true->∃y,Done K.bd n x y/\ParX y p5/\Cm y) (he:ok=false->∀y,¬Done K.bd n x y) (h8:a.tmps.getD 8 undef=zP (w.heap.size+1)) (h9:a.tmps.getD 9 undef=.bool ok) (hd:a.defers=[]) :
  bodyPost prog f89 (fun e w'=>EdO K R w E W n x r 4000000 e w') .ret a (set6 w5 (w.heap.size+1) (zI p5.mode) (zV p5.tag) (zV p5.attr) (zV p5.inside) (zV p5.run) (zI p5.far)):=by
 have ho:=hm.out hB (zI p5.mode) (zV p5.tag) (zV p5.attr) (zV p5.inside) (zV p5.run) (zI p5.far);refine qbz results89 (w.heap.size+1) _ underlying94 rfl (by kernel_rfl) h8 ⟨_,_,hm.res,rfl⟩ hd _ _ _ _ _ _ _ h9 ?_;exact⟨p5,ok,ve5,E5,r5,rfl,ho.1,ha,Hb,Ha,hc,Hc,hb,he,ho.2⟩
theorem q90(K:Sk)(R:List Vt)(hK:SkOk K)(k:Nat)(HE:EndC K R k):zhw K R k:=by
 intro w ve vW E W n x p r hp Ht Hl Hu Hm hC hn Hn hW hB hk hr;obtain⟨s,hs⟩:∃s,K.S[n+1]?=some s:=⟨_,yc (by rw[hK.len];omega)⟩;have hP:qah K.S (n+1)=s.parts:=by unfold qah;rw[hs]
 obtain⟨ao,cap,hv⟩:=qaq (hp.tp.row (n+1) s hs).1;rw[hv];obtain⟨Q,Hp⟩:∃Q:Ending->World->Prop,Q=fun e w'=>EdO K R w E W n x r 4000000 e w':=⟨_,rfl⟩;rw[<-Hp];have Hg:=(hp.tp.row (n+1) s hs).2.len;have H0:Hid (Enm K w ((w.alloc (.cells (qan p) 94)).alloc (.cells #[zI 0,zS,zS,zS,zS,zI 0] 94)) W vW p ve E):=by
  have hb:=((xL w.heap.size w).alloc (yg _) (.cells (qan p) 94)).alloc (by simp) (.cells #[zI 0,zS,zS,zS,zS,zI 0] 94);exact⟨(xI _ _ (by simp)).trans (xF _ _),qap _ _ _ (by simp),hp.kept hb,qab Ht fun q hq=>hb.block q (Ht.lt q hq).2,Ck.of_below hb hB⟩
 have HC:Hid (Enp K R E W n x r s.parts 0 p x E r []):=⟨Hl,Hu,Hm,hC,zeq _ _,by unfold Sk.bd;rw[hP];rfl,yH _,yg _,yg _,by omega⟩;unfold qaz;unfold qan at H0 |-;go_enter func89,ntmps89
 go_wp2
 generalize World.alloc _ _=w1 at H0 |-;have hD:=zH Hg;have ho:=zH hK;have HS:=zH hs;have HV:=zH hv;have Hf:=zH hB;have HX:=(show Hid (K.bd n=_/\n<K.N.length/\InS K.bd R (n,x)/\Cm x/\(∀u∈W,u=(n,x)\/Need K.bd u (n,x)))from⟨(show K.bd n=its K.nm s.parts by unfold Sk.bd;rw[hP]),hn,Hn,Hu,hW⟩);have Hv:=zH (And.intro hk hr);have hL:s.parts.length<=2000:=(hK.ok.parts (n+1) s hs).1;rw[Hg];clear hp Ht Hl Hu Hm hC hn Hn hW hB hk hr hP hs hv Hg hK;go_loopw [10] (fun v10 wr=>∃(i:Nat) (p':Sp) (x':Sx) (ve':Value) (E':List Et) (r':Nat) (pre:List It),v10=zI i/\Hid (Enm K w wr W vW p' ve' E')/\Hid (Enp K R E W n x r s.parts i p' x' E' r' pre)) (fun v10 _=>s.parts.length - (intOf v10).toNat)
 case atStart=>exact⟨0,p,x,ve,E,r,[],rfl,H0,HC⟩
 case round=>
  clear H0 HC;obtain⟨i,p',x',ve',E',r',pre,rfl,HM,HP⟩:=hrel;have HL:=HP.out.le;have q0:=qaa HM.out.spot 0 _ rfl;have q1:=qaa HM.out.spot 1 _ rfl;have q2:=qaa HM.out.spot 2 _ rfl;have q3:=qaa HM.out.spot 3 _ rfl;have q4:=qaa HM.out.spot 4 _ rfl;have q5:=qaa HM.out.spot 5 _ rfl;have hM:=zH HM.out.lt;by_cases Hq:i<s.parts.length
  rotate_left
  ·have Hw:¬(i:Int)<(s.parts.length:Int):=by omega
   have r0:=qaa HM.out.res 0 _ rfl;have r1:=qaa HM.out.res 1 _ rfl;have r2:=qaa HM.out.res 2 _ rfl;have r3:=qaa HM.out.res 3 _ rfl;have r4:=qaa HM.out.res 4 _ rfl;have r5:=qaa HM.out.res 5 _ rfl;have f0:=fun i=>xH _ _ i _ _ HM.out.res;have hN:Hid (Done K.bd n x x'):=by
    have hv:=HP.out.via;have hi:=HP.out.its;rw[q1e (by omega),yw]at hi;rw[<-hi]at hv;exact za5 hv
   go_wp2
   try rw[Hp]
   refine qvp (ok:=true) Hf.out HM.out HP.out.inv HP.out.sp HP.out.len HP.out.up (by have:=HP.out.few;omega) (fun _=>⟨x',hN.out,HP.out.par,HP.out.cm⟩) (fun h=>nomatch h) ?_ ?_ ?_
   all_goals rfl
  obtain⟨g7,cap7,h7,_,_⟩:=qai (HM.out.at_.tp.row (n+1) s HS.out).1 (by rw[hD.out];omega);rw[HV.out]at h7;obtain⟨rfl,rfl⟩:ao=some (zO g7 0)/\cap=cap7:=by injection h7 with a _ c;exact⟨a,c⟩
  clear h7;obtain⟨pt,hx⟩:∃pt,s.parts[i]?=some pt:=⟨_,yc Hq⟩;obtain⟨rm,Hr⟩:∃rm,(K.RL (n+1))[i]?=some rm:=⟨_,yc (by rw[hD.out];exact Hq)⟩;have Hs:=(HM.out.at_.tp.row (n+1) s HS.out).2.each i rm pt Hr hx;have Hi:=(HM.out.at_.tp.row (n+1) s HS.out).1;rw[HV.out]at Hi;have hc:=fun j v (hv:(qdi rm)[j]?=some v)=>(Hi.cellAt (i*6+j) (by have:=qd5 _ i rm Hr j v hv;have:=(yb.1 this).1;rw[qqf]at this;exact this)).trans (qd5 _ i rm Hr j v hv);have c0:wr.cell? (zO g7 (i*6+0))=some (zI (Pl.qb3 pt.kind)):=(hc 0 _ rfl).trans (by rw[Hs.kd]);have hE:Hid (wr.cell? (zO g7 (i*6+2))=some (zV pt.text)):=(hc 2 _ rfl).trans (by rw[Hs.text]);have hO:Hid (wr.cell? (zO g7 (i*6+5))=some (zI ((if pt.kind=3\/pt.kind=4 then pt.mate - i else 0:Nat)))):=(hc 5 _ rfl).trans (by rw[Hs.en]);have hg:=zH hx;clear hc Hi Hs Hr hx;have Hw:(i:Int)<(s.parts.length:Int):=by omega
  simp only[Nat.add_zero]at c0;go_upto_block 1 with fail
  go_cut [10,11,12,13,14,15]from 16 to 87 (fun v10 v11 v12 v13 v14 v15 wx=>∃(j:Nat) (p'':Sp) (x'':Sx) (ve'':Value) (E'':List Et) (r'':Nat) (pre'':List It),i<=j/\v10=zI j/\Hid (Enm K w wx W vW p'' ve'' E'')/\Hid (Enp K R E W n x r s.parts (j+1) p'' x'' E'' r'' pre''))
  case first=>
   have hf:=HP.out.few;have hu:=HP.out.up;have hl:=HP.out.len;have he:=HP.out.inv.few;have HO:=Hv.out.2;have hF:r'<=1900000000000000000:=by omega
   have Hx:=zH hF;clear hf hu hl he HO hF;have hy:=(show Hid (K.B<=wr.heap.size)from yh Hf.out (by have:=hM.out;omega));have hq:pt.text.length<=2000/\pt.mate<=2000:=by have:=(ho.out.ok.parts (n+1) s HS.out).2 pt (yl hg.out);exact⟨this.1,this.2.2⟩
   have Hy:=zH hq;clear hq;have Hk:=qo5 (ho.out.ok.wf (n+1) s HS.out) pt (yl hg.out);by_cases k1:pt.kind=1
   ·rw[show Pl.qb3 pt.kind=0 by rw[k1];rfl]at c0
    have hT:=fun W'=>qwq p' r' ⟨pt.text.toArray⟩ W' HP.out.sp (by have:=Hx.out;have:=Hy.out.1;rw[qb1];omega);unfold qaz qan at hT;have HT:=zH hT;have HN:=zH (HP.out.text hg.out k1 Hy.out.1);have c2:=hE.out;clear hT k1 Hk;go_upto_region 6 with fail
    go_region_with (go_at_call 54;refine(HT.out _).mono ?_;rintro e w5 ⟨rfl,hb⟩;have Ha:=zH (HM.out.kept ⟨hb.os,hb.tape,hb.output,hb.size,hb.block⟩ hy.out);have u0:=qaa Ha.out.spot 0 _ rfl;have u1:=qaa Ha.out.spot 1 _ rfl;have u2:=qaa Ha.out.spot 2 _ rfl;have u3:=qaa Ha.out.spot 3 _ rfl;have u4:=qaa Ha.out.spot 4 _ rfl;have u5:=qaa Ha.out.spot 5 _ rfl;have f0:=fun i=>xH _ _ i _ _ Ha.out.spot;clear hb;dsimp only)
    all_goals
     go_wp2
     go_meet
     exact⟨i,_,_,_,_,_,_,yg _,rfl,Ha.out.set Hf.out (qei p' pt.text),HN.out⟩
   by_cases k2:pt.kind=2
   ·rw[show Pl.qb3 pt.kind=1 by rw[k2];rfl]at c0
    have hT:=fun W'=>qx0 p' W' (by have:=HP.out.sp.tag;omega) (by have:=HP.out.sp.attr;omega) (by have:=HP.out.sp.inside;omega) (by have:=HP.out.sp.run;have:=Hx.out;omega);unfold qaz qan at hT;have HT:=zH hT;have HN:=zH (HP.out.hole hg.out k2);clear hT k1 k2 Hk;generalize p'.view.hole=vh at HT;generalize Sp.behindHole p'=ph at HT HN;go_wp2_with (go_at_call 55;refine(HT.out _).mono ?_;rintro e w5 ⟨rfl,hb⟩;have Ha:=zH (HM.out.kept ⟨hb.os,hb.tape,hb.output,hb.size,hb.block⟩ hy.out);have u0:=qaa Ha.out.spot 0 _ rfl;have u1:=qaa Ha.out.spot 1 _ rfl;have u2:=qaa Ha.out.spot 2 _ rfl;have u3:=qaa Ha.out.spot 3 _ rfl;have u4:=qaa Ha.out.spot 4 _ rfl;have u5:=qaa Ha.out.spot 5 _ rfl;have f0:=fun i=>xH _ _ i _ _ Ha.out.spot;clear hb;dsimp only)
    go_meet
    exact⟨i,_,_,_,_,_,_,yg _,rfl,Ha.out.set Hf.out ph,HN.out⟩
   by_cases k34:pt.kind=3\/pt.kind=4
   ·rw[show Pl.qb3 pt.kind=2 by rcases k34 with h | h<;>rw[h]<;>rfl]at c0
    have hm:=qh1 (ho.out.ok.wf (n+1) s HS.out) i pt hg.out k34;have hQ:=hO.out;rw[if_pos k34]at hQ;have HN:=zH (HP.out.over (j:=pt.mate) (by omega) (by omega) (q1d hg.out k34 (by omega)));have HQ:(i:Int)+((pt.mate - i:Nat):Int)=(pt.mate:Int):=by omega
    have hR:=(show Hid (i<=pt.mate) by show _<=_;omega);have hZ:pt.mate<=2000:=Hy.out.2;clear hm k1 k2 k34 Hk;go_wp2
    go_meet
    exact⟨pt.mate,_,_,_,_,_,_,hR.out,by first|rfl|(congr 1;unfold wrap64;omega),HM.out,HN.out⟩
   by_cases k5:pt.kind=5
   ·rw[show Pl.qb3 pt.kind=3 by rw[k5];rfl]at c0
    have HN:=zH (HP.out.over (j:=i) (yg _) Hq (qs9 hg.out (.inl k5)));clear k1 k2 k34 k5 Hk;go_wp2
    go_meet
    exact⟨i,_,_,_,_,_,_,yg _,rfl,HM.out,HN.out⟩
   have k6:pt.kind=6:=by omega
   rw[show Pl.qb3 pt.kind=4 by rw[k6];rfl]at c0;have c2:=hE.out;have HF:=zH (q8h ⟨pt.text.toArray⟩ HM.out.at_.tp (by have:=ho.out.six;omega));cases hj:qfr K.nm pt.text
   ·have HN:=zH (HP.out.over (j:=i) (yg _) Hq (qs9 hg.out (.inr ⟨k6,hj⟩)))
    have ht:=(show Hid (qfr (K.N.map fun y=>y.data.toList) (⟨pt.text.toArray⟩:zT).data.toList=none)from hj);have HR:Hid (zC 56 #[zP K.g,zV pt.text] wr fun e w'=>e=.returned (zI (-1))/\w'=wr):=by
     refine xQ HF.out ?_;rintro e w' ⟨⟨rr,rfl,hz⟩,hw⟩;rcases hz with⟨rfl,_⟩|⟨k,_,h⟩
     ·exact⟨rfl,hw⟩
     ·rw[ht.out]at h;cases h
    clear k1 k2 k34 k5 k6 Hk hj;go_wp2_with (go_at_call 56;refine xQ HR.out ?_;rintro e w5 ⟨rfl,rfl⟩;dsimp only)
    go_meet
    exact⟨i,_,_,_,_,_,_,yg _,rfl,HM.out,HN.out⟩
   next m=>
   have ht:=(show Hid (qfr (K.N.map fun y=>y.data.toList) (⟨pt.text.toArray⟩:zT).data.toList=some m)from hj);have Hj:=zH (HP.out.named hg.out k6 hj HX.out.1 hL ho.out.six HX.out.2.2.1 HX.out.2.2.2.1);have hU:=(show Hid (∀ {p5:Sp} {y:Sx} {E5:List Et} {r5:Nat} (_:Done K.bd m x' y) (_:ParX y p5) (_:Cm y) (_:EInv K.bd R r5 E5 W) (_:SpOk r5 p5) (_:E'.length<=E5.length) (_:r'<=r5) (_:r5<=r'+4000000*(E5.length - E'.length)+0),Enp K R E W n x r s.parts (i+1) p5 y E5 r5 (pre++[.ca m]))from fun a b c d e f g h=>HP.out.call hg.out k6 hj a b c d e f g h);clear k1 k2 k34 k5 k6 Hk hj;have hS:=fun W'=>qrw p' W' (by have:=HP.out.sp.tag;omega) (by have:=HP.out.sp.attr;omega) (by have:=HP.out.sp.inside;omega) (by have:=HP.out.sp.run;have:=Hx.out;omega);rw[qmb _ _ HP.out.cm.fit.fit.ok HP.out.par]at hS;unfold qaz qan qwb qfa at hS;have HU:=zH hS;clear hS;have HZ:¬(m:Int)<0:=by omega
   have hV:Hid (zC 56 #[zP K.g,zV pt.text] wr fun e w'=>e=.returned (zI m)/\w'=wr):=by
    refine xQ HF.out ?_;rintro e w' ⟨⟨rr,rfl,hz⟩,hw⟩;rcases hz with⟨rfl,h⟩|⟨k,rfl,h⟩
    ·rw[ht.out]at h;cases h
    ·rw[ht.out]at h
     injection h with h;exact⟨by rw[h],hw⟩
   go_upto_region 14 with(go_at_call 56;refine xQ hV.out ?_;rintro e w5 ⟨rfl,rfl⟩;dsimp only)
   go_upto_region 15 with(go_at_call 41;refine(HU.out _).mono ?_;rintro e w5 ⟨rfl,hb⟩;have Ha:=zH (HM.out.kept ⟨hb.os,hb.tape,hb.output,hb.size,hb.block⟩ hy.out);clear hb;dsimp only)
   have Ho:=zH (Ha.out.kept (w':=w5.alloc (.cells #[zI m,zI x'.view.mode,zI x'.view.elem,zI x'.view.attr,zI x'.view.ends,zI x'.view.esc,zI x'.view.pct,zI x'.view.link,zV x'.view.name,.bool x'.view.ref] 143)) (zB _) (yh Hf.out (by have:=Ha.out.lt;omega)));have ha:=xF w5 (.cells #[zI m,zI x'.view.mode,zI x'.view.elem,zI x'.view.attr,zI x'.view.ends,zI x'.view.esc,zI x'.view.pct,zI x'.view.link,zV x'.view.name,.bool x'.view.ref] 143);generalize World.alloc w5 _=w6 at Ho ha |-;generalize w5.heap.size=VB at ha |-;have v0:=qaa ha 0 _ rfl;have v1:=qaa ha 1 _ rfl;have v2:=qaa ha 2 _ rfl;have v3:=qaa ha 3 _ rfl;have v4:=qaa ha 4 _ rfl;have v5:=qaa ha 5 _ rfl;have v6:=qaa ha 6 _ rfl;have v7:=qaa ha 7 _ rfl;have v8:=qaa ha 8 _ rfl;have v9:=qaa ha 9 _ rfl;clear ha Ha q0 q1 q2 q3 q4 q5 c0 c2;have Hz:=fun(W':World) (h:W'.ownsRow K.B 143 10 vW W.length (qcv W))=>qpp K.B vW W m x' W' (by have:=HP.out.inv.few;omega) h (fun u hu=>(HP.out.inv.wins u hu).2) HP.out.cm;unfold qfv at Hz;have hG:=zH Hz;clear Hz;go_upto_if 74 with(go_at_call 57;refine xQ (hG.out _ Ho.out.wi) ?_;rintro e w7 ⟨⟨b,rfl,hb⟩,HG⟩;have hI:=zH hb;have He:=zH (Ho.out.kept HG (yh Hf.out (by have:=Ho.out.lt;omega)));clear hb HG;dsimp only)
   have q0:=qaa He.out.spot 0 _ rfl;have q1:=qaa He.out.spot 1 _ rfl;have q2:=qaa He.out.spot 2 _ rfl;have q3:=qaa He.out.spot 3 _ rfl;have q4:=qaa He.out.spot 4 _ rfl;have q5:=qaa He.out.spot 5 _ rfl;clear v0 v1 v2 v3 v4 v5 v6 v7 v8 v9 Ho hG;cases b
   rotate_left
   ·have hA:Hid (∀y,¬Done K.bd n x y):=by
     have HW:=hI.out.1 rfl;rcases HX.out.2.2.2.2 _ HW with e|e
     ·have:=Hj.out.2.2
      rw[e]at this;exact Need.self this
     ·exact Need.self (Hj.out.2.2.trans e)
    have Hc:=He;have rs0:=qaa Hc.out.res 0 _ rfl;have rs1:=qaa Hc.out.res 1 _ rfl;have rs2:=qaa Hc.out.res 2 _ rfl;have rs3:=qaa Hc.out.res 3 _ rfl;have rs4:=qaa Hc.out.res 4 _ rfl;have rs5:=qaa Hc.out.res 5 _ rfl;have z0:=fun i=>xH _ _ i _ _ Hc.out.res;go_wp2
    try rw[Hp]
    refine qvp (ok:=false) Hf.out He.out HP.out.inv HP.out.sp HP.out.len HP.out.up (by have:=HP.out.few;omega) (fun h=>nomatch h) (fun _=>hA.out) ?_ ?_ ?_
    all_goals rfl
   have hX:=(show Hid ((m,x')∉W) from fun h=>by have:=hI.out.2 h;cases this);have HA:=HE w7 ve' vW E' W m x' p' r' He.out.at_ He.out.wi HP.out.inv HP.out.cm HP.out.par HP.out.sp Hj.out.1 Hj.out.2.1 hX.out (fun u hu=>by
    rcases HX.out.2.2.2.2 u hu with e|e
    ·rw[e];exact Hj.out.2.2
    ·exact e.trans Hj.out.2.2) (yh Hf.out (by have:=He.out.lt;omega)) (by have:=Hv.out.1;have:=HP.out.len;omega) (by have:=Hv.out.2;have:=HP.out.few;have:=HP.out.len;have:=HP.out.inv.few;omega)
   unfold qaz qan at HA;have hY:=zH HA;clear HA;go_upto_region 19 with(go_at_call 58;refine xQ hY.out ?_;rintro e w8 ⟨p5,ok,ve5,E5,r5,rfl,hd⟩;unfold qaz qan;have HD:=zH hd;clear hd;dsimp only)
   have HB:=zH (He.out.ended HD.out.ck HD.out.at_);have Hb:=zH (HB.out.kept (w':=w8.alloc (.cells (qan p5) 94)) (zB _) (yh Hf.out (by have:=HB.out.lt;omega)));have ha:=xF w8 (.cells (qan p5) 94);unfold qan at Hb ha;generalize World.alloc w8 _=w9 at Hb ha |-;generalize w8.heap.size=TB at ha |-;have v0:=qaa ha 0 _ rfl;have v1:=qaa ha 1 _ rfl;have v2:=qaa ha 2 _ rfl;have v3:=qaa ha 3 _ rfl;have v4:=qaa ha 4 _ rfl;have v5:=qaa ha 5 _ rfl;clear ha q0 q1 q2 q3 q4 q5 HB He;cases ok
   ·have hA:Hid (∀y,¬Done K.bd n x y):=Need.not Hj.out.2.2 (HD.out.no rfl)
    have Hc:=Hb;have q0:=qaa Hb.out.spot 0 _ rfl;have q1:=qaa Hb.out.spot 1 _ rfl;have q2:=qaa Hb.out.spot 2 _ rfl;have q3:=qaa Hb.out.spot 3 _ rfl;have q4:=qaa Hb.out.spot 4 _ rfl;have q5:=qaa Hb.out.spot 5 _ rfl;have rs0:=qaa Hc.out.res 0 _ rfl;have rs1:=qaa Hc.out.res 1 _ rfl;have rs2:=qaa Hc.out.res 2 _ rfl;have rs3:=qaa Hc.out.res 3 _ rfl;have rs4:=qaa Hc.out.res 4 _ rfl;have rs5:=qaa Hc.out.res 5 _ rfl;have z0:=fun i=>xH _ _ i _ _ Hc.out.res;go_wp2
    try rw[Hp]
    refine qvp (ok:=false) (p5:=p') (r5:=r5) Hf.out Hb.out HD.out.inv (HP.out.sp.le HD.out.up) (yh HP.out.len HD.out.len) (yh HP.out.up HD.out.up) (by have:=HP.out.few;have:=HD.out.le;have:=HD.out.len;have:=HP.out.len;omega) (fun h=>nomatch h) (fun _=>hA.out) ?_ ?_ ?_
    all_goals rfl
   obtain⟨y,HI,hJ,HJ⟩:=HD.out.yes rfl;have HN:=zH (hU.out HI hJ HJ HD.out.inv HD.out.sp HD.out.len HD.out.up HD.out.le);clear HI hJ HJ;have u0:=qaa Hb.out.spot 0 _ rfl;have u1:=qaa Hb.out.spot 1 _ rfl;have u2:=qaa Hb.out.spot 2 _ rfl;have u3:=qaa Hb.out.spot 3 _ rfl;have u4:=qaa Hb.out.spot 4 _ rfl;have u5:=qaa Hb.out.spot 5 _ rfl;have f0:=fun i=>xH _ _ i _ _ Hb.out.spot;go_wp2
   go_meet
   exact⟨i,_,_,_,_,_,_,yg _,rfl,Hb.out.set Hf.out p5,HN.out⟩
  case rest=>
  obtain⟨j,p'',x'',ve'',E'',r'',pre'',h0,rfl,HY,HK⟩:=hcut;have h1:=HK.out.le;go_wp2
  refine⟨⟨j+1,p'',x'',ve'',E'',r'',pre'',by go_num,HY,HK⟩,?_⟩;simp[intOf];omega
section
open Go.Maps
structure VwFit(v:Vw):Prop where
 i0:(Lit.int .i64 v.mode).wf=true
 i1:(Lit.int .i64 v.elem).wf=true
 i2:(Lit.int .i64 v.attr).wf=true
 i3:(Lit.int .i64 v.ends).wf=true
 i4:(Lit.int .i64 v.esc).wf=true
 i5:(Lit.int .i64 v.pct).wf=true
 i6:(Lit.int .i64 v.link).wf=true
 nm:v.name.length<=9
theorem qhr{x:Sx}(h:Cm x):VwFit x.view:=by
 obtain⟨h1,h2,h3,h4,h5,h6,h7⟩:=qz7 h.fit.fit.ok;have hm:=h.fit.fit.ok.st.hi;have hw:=h.fit.fit.ok.st.wrap;have hh:=h.fit.fit.ok.ma.hex;refine⟨WalkArith.wf_i64 (by show _/\_;unfold Sx.view;simp only;omega),WalkArith.wf_i64 ?_,WalkArith.wf_i64 ?_,h5,WalkArith.wf_i64 ?_,h7,WalkArith.wf_i64 ?_,h2⟩
 ·have:=qhh x.st.elem
  unfold Sx.view;simp only;omega
 ·unfold Sx.view;simp only;split<;>omega
 ·unfold Sx.view;simp only;repeat' split
  all_goals omega
 ·unfold Sx.view;simp only;unfold qj4;repeat' split
  all_goals omega
theorem qts:prog.cellsOf 111=9:=by kernel_rfl
theorem qrk:prog.cellsOf 143=10:=by kernel_rfl
theorem zen(d:Nat){v:Vw}(h:VwFit v):∃l,prog.keyLits (d+2) 111 [zI v.mode,zI v.elem,zI v.attr,zI v.ends,zI v.esc,zI v.pct,zI v.link,zV v.name,.bool v.ref]=some l:=by
 have hn:(⟨v.name.toArray⟩:zT).size<=maxLen:=by have:=h.nm;simp[ByteArray.size];unfold maxLen;omega
 unfold Program.keyLits;simp only[underlying111];simp[qts,qj9,qy4,qtt,qxo,zd9,q87,h.i0,h.i1,h.i2,h.i3,h.i4,h.i5,h.i6,hn]
theorem zdx{n:Nat}{v:Vw}(h:VwFit v)(hn:n<=100):∃l,keyOf prog 143 (qfv n v)=some l:=by
 obtain⟨d,hs⟩:∃d,prog.types.size+1=(d+2)+1:=⟨prog.types.size - 2,by
  have:4<=prog.types.size:=by decide +kernel
  omega⟩
 obtain⟨l,hl⟩:=zen d h;have hk:prog.keyType 143=true:=by kernel_rfl
 have Ha:(qfv n v).formed prog 143=true:=by
  unfold qfv Value.formed;simp[underlying143,qrk]
 unfold keyOf;simp only[underlying143];rw[hk,Ha,hs];unfold Program.keyLits;simp only[underlying143];have ha:(Lit.int .i64 (n:Int)).wf=true:=WalkArith.wf_i64 (by omega);unfold qfv;simp[Value.cells,qrk,qts,qj9,qxo,ha,hl]
theorem q65{n m:Nat}{v u:Vw}(h:qfv n v=qfv m u):n=m/\v=u:=by
 obtain⟨a,b,c,d,e,f,g,nm,r⟩:=v;obtain⟨a',b',c',d',e',f',g',nm',r'⟩:=u;unfold qfv at h;simp only[Value.agg.injEq,Array.mk.injEq,List.cons.injEq,Value.int.injEq,true_and,Value.string.injEq,Value.bool.injEq,and_true,ByteArray.mk.injEq]at h;obtain⟨h0,h1,h2,h3,h4,h5,h6,h7,h8,h9⟩:=h;have ha:nm=nm':=by simpa using h8
 subst h1 h2 h3 h4 h5 h6 h7 ha h9;exact⟨by omega,rfl⟩
theorem q2k(w:World){n m:Nat}{v u:Vw}(hv:VwFit v)(hu:VwFit u)(hn:n<=100)(hm:m<=100){b:Bool}(hb:b=true↔(n=m/\v=u)):(Op.equal 143 (qfv n v) (qfv m u)).run prog w=.ok b w:=by
 obtain⟨lx,h1⟩:=zdx hv hn;obtain⟨ly,h2⟩:=zdx hu hm;obtain⟨r,hr,ha⟩:=run_equal_deep w (m:=4) (by decide) (by kernel_rfl) (by kernel_rfl) h1 h2;rw[hr];have:r=b:=by
  rw[xh,ha,hb];constructor
  ·intro e
   exact q65 (keyOf_inj_deep (m:=4) (k:=143) (by kernel_rfl) (by kernel_rfl) h1 (by rw[h2,e]))
  ·rintro⟨rfl,rfl⟩
   rw[h1]at h2;exact yk h2
 rw[this]
theorem qsd(w:World)(n m:Nat)(v u:Vw)(o1 o2:Operand):(eqGuard .eql 143 o1 o2 (qfv n v) (qfv m u)).run prog w=.ok () w:=by
 have:prog.eqGuardType prog.depth 143=false:=by kernel_rfl
 unfold eqGuard qfv;simp[run_program,this]
theorem zdy(w:World){n m:Nat}{v u:Vw}(hv:VwFit v)(hu:VwFit u)(hn:n<=100)(hm:m<=100){b:Bool}(hb:b=true↔(n=m/\v=u)):(binOp .eql 143 (qfv n v) (qfv m u)).run prog w=.ok (.bool b) w:=by
 have h:=q2k w hv hu hn hm hb;unfold binOp qfv;unfold qfv at h;simp[h]
theorem qse(w:World){n m:Nat}{v u:Vw}(hv:VwFit v)(hu:VwFit u)(hn:n<=100)(hm:m<=100){b:Bool}(hb:b=true↔(n=m/\v=u)):(Op.equalIn 10000 143 (qfv n v) (qfv m u)).run prog w=.ok b w:=by
 have h:=q2k w hv hu hn hm hb;unfold qfv at h |-;simpa [Op.equal,Op.maxDepth]using h
end
variable{K:Sk}{w0 wr w w1 w':World}{W:List Vt}{vW ve' vp ve:Value}{p':Sp}{E' E:List Et}{B g:Nat}{S:List Src}{pv:Nat->Value}{RL:Nat->List Rm}
theorem Enm.setFar(h:Enm K w0 wr W vW p' ve' E')(hB:K.B<=w0.heap.size){g:Nat}{cs:Array Value}{fz:Nat×Nat}(hg:wr.heap[g]?=some (.cells cs 94 fz))(hb:w0.heap.size+1<g)(v0 v1 v2 v3 v4 v5:Value):Enm K w0 (set6 wr g v0 v1 v2 v3 v4 v5) W vW p' ve' E':=by
 have Ha:∀(k:Nat) (cs:Array Value) (t:TypeId) (fz:Nat×Nat),wr.heap[k]?=some (.cells cs t fz)->t≠94->(set6 wr g v0 v1 v2 v3 v4 v5).heap[k]?=wr.heap[k]?:=fun k cs t fz hk ht=>qc0 (qae hk hg ht) _ _ _ _ _ _;have ha:∀(e:TypeId) (sz n:Nat) (v:Value) (xs:List Value),wr.ownsRow K.B e sz v n xs->e≠94->(set6 wr g v0 v1 v2 v3 v4 v5).ownsRow K.B e sz v n xs:=fun e sz n v xs hv he=>qab hv fun k hk=>by
  obtain⟨cur,hc⟩:=qac hv k hk;exact Ha _ _ _ _ hc he
 exact⟨(qc0 (by omega) _ _ _ _ _ _).trans h.spot,(qc0 (by omega) _ _ _ _ _ _).trans h.res,⟨⟨(Ha _ _ _ _ h.at_.tp.blk (by decide)).trans h.at_.tp.blk,h.at_.tp.le,ha _ _ _ _ _ h.at_.tp.parts (by decide),fun i s hs=>⟨ha _ _ _ _ _ (h.at_.tp.row i s hs).1 (by decide),(h.at_.tp.row i s hs).2⟩⟩,ha _ _ _ _ _ h.at_.ends (by decide)⟩,ha _ _ _ _ _ h.wi (by decide),qb9 h.ck.below (by omega) _ _ _ _ _ _,fun k cs t fz hk h1 h2=>(qc0 (by have:=(ya.1 hk).1;omega) _ _ _ _ _ _).trans (h.ck.keep k cs t fz hk h1 h2)⟩
theorem EnAt.apart{N:List zT}(h:EnAt w B g S N pv RL vp ve E)(hb:zW w w1)(Ha:w1.grownBy w' ve.ownBlock){k:Nat}{cs:Array Value}{t:TypeId}{fz:Nat×Nat}(hk:w.heap[k]?=some (.cells cs t fz))(ht:t≠201):w'.heap[k]?=w.heap[k]?:=by
 have ha:=(ya.1 hk).1;refine(Ha.block k (yi ha hb.size) (fun e=>?_)).trans (hb.block k ha);obtain⟨cur,hc⟩:=qac h.ends k e.symm;exact qae hk hc ht rfl
theorem EnAt.ahead{N:List zT}(h:EnAt w B g S N pv RL vp ve E)(hb:zW w w1)(ha:w1.grownBy w' ve.ownBlock):w'.cell? (zO g 2)=some ve/\w'.frozen? (zO g 2)=false:=by
 have hg:=(h.apart hb ha h.tp.blk (by decide)).trans h.tp.blk;exact⟨qaa hg 2 _ rfl,xH _ _ 2 _ _ hg⟩
theorem Enm.more(h:Enm K w0 wr W vW p' ve E')(hB:K.B<=w0.heap.size)(hb:zW wr w1)(e:Et)(Hc:w'.ownsRow K.B 201 17 ve' (E'.length+1) (qh7 E'++qe6 e))(he:w1.grownBy w' ve.ownBlock)(He:ve'.ownBlock=ve.ownBlock\/ve'.ownBlock=some w1.heap.size) :
  Enm K w0 (w'.setCell (zO K.g 2) ve') W vW p' ve' (E'++[e])/\∀(k:Nat) (cs:Array Value) (fz:Nat×Nat),wr.heap[k]?=some (.cells cs 94 fz)->(w'.setCell (zO K.g 2) ve').heap[k]?=wr.heap[k]?:=by
 have hg:=(h.at_.apart hb he h.at_.tp.blk (by decide)).trans h.at_.tp.blk;have Hf:=(zL h.at_.tp.blk);have Hg:=hb.size;have hi:=h.lt;have hf:ve'.ownBlock≠some K.g:=by
  intro q;rcases He with z|z
  ·rw[q]at z
   obtain⟨cur,hc⟩:=qac h.at_.ends K.g z.symm;exact qae h.at_.tp.blk hc (by decide) rfl
  ·rw[q]at z
   injection z with z;omega
 have Hb:∀k,k≠K.g->(w'.setCell (zO K.g 2) ve').heap[k]?=w'.heap[k]?:=fun k hk=>xK _ _ _ _ hk;have ha:∀(k:Nat) (cs:Array Value) (t:TypeId) (fz:Nat×Nat),wr.heap[k]?=some (.cells cs t fz)->t≠201->t≠101->(w'.setCell (zO K.g 2) ve').heap[k]?=wr.heap[k]?:=fun k cs t fz hk h1 h2=>(Hb k (qae hk h.at_.tp.blk h2)).trans (h.at_.apart hb he hk h1);have Ha:∀(t:TypeId) (sz n:Nat) (v:Value) (xs:List Value),wr.ownsRow K.B t sz v n xs->t≠201->t≠101->(w'.setCell (zO K.g 2) ve').ownsRow K.B t sz v n xs:=fun t sz n v xs hv h1 h2=>qab hv fun k hk=>by
  obtain⟨cur,hc⟩:=qac hv k hk;exact ha _ _ _ _ hc h1 h2
 refine⟨⟨(ha _ _ _ _ h.spot (by decide) (by decide)).trans h.spot,(ha _ _ _ _ h.res (by decide) (by decide)).trans h.res,⟨⟨xG w' K.g 2 _ _ _ hg,h.at_.tp.le,Ha _ _ _ _ _ h.at_.tp.parts (by decide) (by decide),fun i s hs=>⟨Ha _ _ _ _ _ (h.at_.tp.row i s hs).1 (by decide) (by decide),(h.at_.tp.row i s hs).2⟩⟩,?_⟩,Ha _ _ _ _ _ h.wi (by decide) (by decide),?_,fun k cs t fz hk h1 h2=>?_⟩,fun k cs fz hk=>ha _ _ _ _ hk (by decide) (by decide)⟩
 ·rw[yJ,qye]
  exact qab Hc fun k hk=>Hb k (fun e=>hf (by rw[<-e];exact hk))
 ·exact((h.ck.below.trans (hb.mono (by omega))).grown he (by omega) (fun q hq=>(World.ownsRow.lt h.at_.ends q hq).1)).setCell h.at_.tp.le _
 ·have:=h.ck.keep k cs t fz hk h1 h2
  exact(ha k cs t fz (this.trans hk) h1 h2).trans this
theorem zdb{B:Nat->List It}{R:List Vt}{r:Nat}{n:Nat}{x:Sx}{e:Et}(h:EInv B R r E (W++[(n,x)]))(he:EtOk B R r e)(hn:(e.n,e.x)=(n,x)):EInv B R r (E++[e]) W:=by
 refine⟨fun u hu=>(yn.1 hu).elim (h.each u) fun q=>yv.1 q▸he,?_,fun u hu=>h.wins u (List.mem_append_left _ hu)⟩;rw[yG,yq,show [e].map (fun e=>(e.n,e.x))=[(n,x)]from by rw[List.map_singleton,hn]];exact(List.Perm.append_left _ List.perm_append_comm).nodup_iff.1 h.apart
theorem zcs:(prog.info? 201).map (fun i=>(i.zero,i.size,i.bytes))=some (some (.agg #[zI 0,zI 0,zI 0,zI 0,zI 0,zI 0,zI 0,zI 0,zS,.bool false,zI 0,zS,zS,zS,zS,zI 0,.bool false]),17,176):=by kernel_rfl
end Go.Proofs.YtfkhljmiehdgmaaGreatDoor
