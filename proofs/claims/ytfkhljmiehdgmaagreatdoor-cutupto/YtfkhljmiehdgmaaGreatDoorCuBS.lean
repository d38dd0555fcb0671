/-
  Steps of the proof.
-/
import Derived.Test.YtfkhljmiehdgmaaGreatDoorCuBR
import Derived.Test.YtfkhljmiehdgmaaGreatDoorCuAZ
import Derived.Laws.AppendOwnNone
set_option maxRecDepth 100000
set_option maxHeartbeats 40000000
namespace Go.Proofs.YtfkhljmiehdgmaaGreatDoor
open Go.RowKit Go.Proofs.Tryz Pl
variable{B:Nat}{w w':World}
def qe6(e:Et):List Value:=(qcj e.n e.x.view).toList++((qan e.p).toList++[.bool e.ok])
def qh7(E:List Et):List Value:=E.flatMap qe6
theorem q1s(E:List Et):(qh7 E).length=E.length*17:=by
 induction E with
 |nil=>rfl
 |cons p L ih=>show(qh7 L).length+17=_;rw[ih,yK];omega
theorem qye(L:List Et)(p:Et):qh7 (L++[p])=qh7 L++qe6 p:=by simp[qh7]
theorem qnw:∀(L:List Et) (k:Nat) (p:Et),L[k]?=some p->∀(j:Nat) (v:Value),(qe6 p)[j]?=some v->(qh7 L)[k*17+j]?=some v
 |[],k,p,e=>by simp at e
 |q::L,0,p,e=>by
   simp only[yS,Option.some.injEq]at e;subst e;intro j v y;show(qe6 q++qh7 L)[0*17+j]?=some v;rw[Nat.zero_mul,xf,yr (yb.1 y).1];exact y
 |q::L,k+1,p,e=>by
   intro j v y;have:=qnw L k p (by simpa using e) j v y;show(qe6 q++qh7 L)[(k+1)*17+j]?=some v;rw[yt (by simp[qe6,qcj,qan];omega)];have e:(k+1)*17+j - (qe6 q).length=k*17+j:=by simp[qe6,qcj,qan];omega
   rw[e];exact this
def qcv(W:List Vt):List Value:=W.flatMap fun u=>(qcj u.1 u.2.view).toList
theorem qlg(W:List Vt):(qcv W).length=W.length*10:=by
 induction W with
 |nil=>rfl
 |cons p L ih=>show(qcv L).length+10=_;rw[ih,yK];omega
theorem qn6(L:List Vt)(u:Vt):qcv (L++[u])=qcv L++(qcj u.1 u.2.view).toList:=by simp[qcv]
theorem qsc:∀(L:List Vt) (k:Nat) (u:Vt),L[k]?=some u->∀(j:Nat) (v:Value),(qcj u.1 u.2.view).toList[j]?=some v->(qcv L)[k*10+j]?=some v
 |[],k,p,e=>by simp at e
 |q::L,0,p,e=>by
   simp only[yS,Option.some.injEq]at e;subst e;intro j v y;show((qcj q.1 q.2.view).toList++qcv L)[0*10+j]?=some v;rw[Nat.zero_mul,xf,yr (yb.1 y).1];exact y
 |q::L,k+1,p,e=>by
   intro j v y;have:=qsc L k p (by simpa using e) j v y;show((qcj q.1 q.2.view).toList++qcv L)[(k+1)*10+j]?=some v;rw[yt (by simp[qcj];omega)];have e:(k+1)*10+j - ((qcj q.1 q.2.view).toList).length=k*10+j:=by simp[qcj];omega
   rw[e];exact this
structure Ck(B:Nat)(w w':World):Prop where
 below:Below B w w'
 keep:∀(k:Nat) (cs:Array Value) (t:TypeId) (fz:Nat×Nat),w.heap[k]?=some (.cells cs t fz)->t≠201->t≠101->w'.heap[k]?=w.heap[k]?
theorem Ck.refl(B:Nat)(w:World):Ck B w w:=⟨xL _ _,fun _ _ _ _ _ _ _=>rfl⟩
theorem Ck.trans{a b c:World}(h:Ck B a b)(k:Ck B b c):Ck B a c:=
 ⟨h.below.trans k.below,fun i cs t fz y z D=>(k.keep i cs t fz ((h.keep i cs t fz y z D).trans y) z D).trans (h.keep i cs t fz y z D)⟩
theorem Ck.of_below(h:zW w w')(y:B<=w.heap.size):Ck B w w':=
 ⟨h.mono y,fun k _ _ _ z _ _=>h.block k (ya.1 z).1⟩
structure EnAt(w:World)(B g:Nat)(S:List Src)(N:List zT)(pv:Nat->Value)(RL:Nat->List Rm)(vp ve:Value)(E:List Et):Prop where
 tp:TpAt w B g S N pv RL vp ve
 ends:w.ownsRow B 201 17 ve E.length (qh7 E)
theorem EnAt.kept{g:Nat}{S:List Src}{N:List zT}{pv:Nat->Value}{RL:Nat->List Rm}{vp ve:Value}{E:List Et}(h:EnAt w B g S N pv RL vp ve E)(y:zW w w'):EnAt w' B g S N pv RL vp ve E:=
 ⟨h.tp.kept y,qab h.ends fun k z=>y.block k (h.ends.lt k z).2⟩
theorem qpp(B:Nat)(vW:Value)(W:List Vt)(n:Nat)(x:Sx)(w:World)(I:W.length<=1000000000000)(h:w.ownsRow B 143 10 vW W.length (qcv W))(J:∀u∈W,Cm u.2)(O:Cm x) :
  zC 57 #[vW,qfv n x.view] w fun e w'=>(∃b:Bool,e=.returned (.bool b)/\(b=true↔(n,x)∈W))/\zW w w':=by
 by_cases T:W.length=0
 ·have e:W=[]:=yC T
  subst e;rcases h.2 with⟨rfl,_⟩|⟨g,cap,cur,rfl,_,U,_⟩
  ·refine(qzu n x.view w).mono ?_
   rintro e w' ⟨rfl,V⟩;exact⟨⟨false,rfl,by simp⟩,V⟩
  ·refine(qpo g cap [] n x.view w (yH _) ⟨fun i y X=>by simp at X,(ya.1 U).1⟩).mono ?_
   rintro e w' ⟨⟨b,rfl,V⟩,z⟩;exact⟨⟨b,rfl,V.trans (by simp)⟩,z⟩
 obtain⟨g,cap,rfl,_,D⟩:=qai h (by omega);have Y:VisAt w g (W.map fun u=>((u.1:Int),u.2.view)):=by
  refine⟨fun i y X j v Z=>?_,D⟩;rw[yz]at X;obtain⟨u,hu,rfl⟩:=yy.1 X;have hc:=qsc W i u hu j v Z;have hi:=(yb.1 hc).1;rw[qlg]at hi;rw[World.ownsRow.cellAt h (i*10+j) hi];exact hc
 have:=qpo g cap _ n x.view w (by rw[yR];exact I) Y;rw[yR]at this;refine this.mono ?_;rintro e w' ⟨⟨b,rfl,V⟩,z⟩;exact⟨⟨b,rfl,V.trans (zhn J O)⟩,z⟩
theorem q8i(g:Nat)(vp:Value)(x:zT)(w:World)(y:vp=zN\/∃a c,vp=.slice (some a) 0 c)(h:w.cell? (zO g 1)=some vp) :
  zC 56 #[zP g,.string x] w fun e w'=>e=.returned (zI (-1))/\w'=w:=by
 rcases y with rfl|⟨a,c,rfl⟩
 all_goals
  go_enter func56,ntmps56
  go_wp2
  go_loopw [5] (fun i wr=>i=zI 0/\wr=w) (fun _ _=>0)
  case atStart=>exact⟨rfl,rfl⟩
  case round=>
   obtain⟨rfl,rfl⟩:=hrel;go_wp2
   go_ret
   exact⟨rfl,rfl⟩
theorem q1k{N:List zT}{x:zT}{r:Int}(h:qv8 x N r):(r=-1/\qfr (N.map fun y=>y.data.toList) x.data.toList=none)\/∃k:Nat,r=k/\qfr (N.map fun y=>y.data.toList) x.data.toList=some k:=by
 have O:∀(a b:zT),a.data.toList=b.data.toList->a=b:=fun a b e=>xi (Array.toList_inj.1 e);rcases h with⟨k,rfl,T,D⟩|⟨rfl,I⟩
 ·right
  refine⟨k,rfl,?_⟩;unfold qfr;rw[List.findIdx?_eq_some_iff_getElem];have J:=(yb.1 T);obtain⟨U,V⟩:=J;refine⟨by rw[yR];exact U,by simp[V],fun j X=>?_⟩;simp only[List.getElem_map,yF];intro e;exact D j X (by rw[yc (by omega),O _ _ e])
 ·left
  refine⟨rfl,?_⟩;unfold qfr;rw[List.findIdx?_eq_none_iff];intro y Y;obtain⟨z,Z,rfl⟩:=xq.1 Y;simp only[yf];intro e;obtain⟨j,X,rfl⟩:=List.getElem_of_mem Z;exact I j (by rw[yc X,O _ _ e])
theorem q8h(x:zT){w:World}{B g:Nat}{S:List Src}{N:List zT}{pv:Nat->Value}{RL:Nat->List Rm}{vp ve:Value}(h:TpAt w B g S N pv RL vp ve)(z:N.length<=100000) :
  zC 56 #[zP g,.string x] w fun e w'=>(∃r:Int,e=.returned (zI r)/\((r=-1/\qfr (N.map fun y=>y.data.toList) x.data.toList=none)\/∃k:Nat,r=k/\qfr (N.map fun y=>y.data.toList) x.data.toList=some k))/\w'=w:=by
 have D:=qaa h.blk 1 _ rfl;by_cases I:N.length=0
 ·have e:N=[]:=yC I
  subst e;refine(q8i g vp x w ?_ D).mono ?_
  ·rcases h.parts.2 with ⟨e,_⟩ | ⟨g',cap,cur,e,_⟩
   ·exact .inl e
   ·exact .inr ⟨_,_,e⟩
  ·rintro e w' ⟨rfl,J⟩
   exact⟨⟨-1,rfl,.inl ⟨rfl,rfl⟩⟩,J⟩
 ·obtain⟨b,cap,rfl,_,_⟩:=qai h.parts (by omega)
  refine(zbz g b N x w z ⟨⟨cap,D⟩,fun i y O=>?_⟩).mono ?_
  ·have T:=(qki pv N 1 i y O).1
   have U:=(yb.1 T).1;rw[qir]at U;rw[World.ownsRow.cellAt h.parts (i*2) U];exact T
  ·rintro e w' ⟨⟨r,rfl,V⟩,J⟩
   exact⟨⟨r,rfl,q1k V⟩,J⟩
variable{w0 wr w' w:World}{W R:List Vt}{vW ve':Value}{p':Sp}{E' E:List Et}{g r r' n i:Nat}{x x':Sx}{P:List Pt}{pre:List It}
structure Sk where
 B:Nat
 g:Nat
 S:List Src
 N:List zT
 pv:Nat->Value
 RL:Nat->List Rm
 vp:Value
def Sk.nm(K:Sk):List zU:=K.N.map fun y=>y.data.toList
def Sk.bd(K:Sk)(n:Nat):List It:=Pl.its K.nm (qah K.S (n+1))
structure SkOk(K:Sk):Prop where
 six:K.N.length<=6
 len:K.S.length=K.N.length+1
 ok:SrcsOk K.S
abbrev Sk.at_(K:Sk)(w:World)(ve:Value)(E:List Et):Prop:=EnAt w K.B K.g K.S K.N K.pv K.RL K.vp ve E
structure EdP(K:Sk)(R:List Vt)(w w':World)(E:List Et)(W:List Vt)(n:Nat)(x:Sx)(r more:Nat)(p':Sp)(ok:Bool)(ve':Value)(E':List Et)(r':Nat):Prop where
 at_:K.at_ w' ve' E'
 inv:EInv K.bd R r' E' W
 sp:SpOk r' p'
 len:E.length<=E'.length
 up:r<=r'
 le:r'<=r+4000000*(E'.length - E.length)+more
 yes:ok=true->∃y,Done K.bd n x y/\ParX y p'/\Cm y
 no:ok=false->∀y,¬Done K.bd n x y
 ck:Ck K.B w w'
def EdO(K:Sk)(R:List Vt)(w:World)(E:List Et)(W:List Vt)(n:Nat)(x:Sx)(r more:Nat)(e:Ending)(w':World):Prop:=
 ∃p' ok ve' E' r',e=.returned (.tuple #[qaz p',.bool ok])/\EdP K R w w' E W n x r more p' ok ve' E' r'
def EndC(K:Sk)(R:List Vt)(k:Nat):Prop:=∀(w:World) (ve vW:Value) (E:List Et) (W:List Vt) (n:Nat) (x:Sx) (p:Sp) (r:Nat),
 K.at_ w ve E->w.ownsRow K.B 143 10 vW W.length (qcv W)->EInv K.bd R r E W->Cm x->ParX x p->SpOk r p->n<K.N.length->InS K.bd R (n,x)->(n,x)∉W->(∀u∈W,Need K.bd u (n,x))->K.B<=w.heap.size ->
 429926418001<=E.length+W.length+k->r+4000000*(429926418001 - (E.length+W.length))<=1900000000000000000 ->
 zC 58 #[zP K.g,zI n,qaz p,vW] w fun e w'=>EdO K R w E W n x r 0 e w'
def zhw(K:Sk)(R:List Vt)(k:Nat):Prop:=∀(w:World) (ve vW:Value) (E:List Et) (W:List Vt) (n:Nat) (x:Sx) (p:Sp) (r:Nat),
 K.at_ w ve E->w.ownsRow K.B 143 10 vW W.length (qcv W)->EInv K.bd R r E W->Cm x->ParX x p->SpOk r p->n<K.N.length->InS K.bd R (n,x)->(∀u∈W,u=(n,x)\/Need K.bd u (n,x))->K.B<=w.heap.size ->
 429926418001<=E.length+W.length+k->r+4000000*(429926418002 - (E.length+W.length))<=1900000000000000000 ->
 zC 89 #[zP K.g,K.pv (n+1),qaz p,vW] w fun e w'=>EdO K R w E W n x r 4000000 e w'
structure Enm(K:Sk)(w0 wr:World)(W:List Vt)(vW:Value)(p':Sp)(ve':Value)(E':List Et):Prop where
 spot:wr.heap[w0.heap.size]?=zK (qan p') 94
 res:wr.heap[w0.heap.size+1]?=zK #[zI 0,zS,zS,zS,zS,zI 0] 94
 at_:K.at_ wr ve' E'
 wi:wr.ownsRow K.B 143 10 vW W.length (qcv W)
 ck:Ck K.B w0 wr
theorem Enm.lt{K:Sk}(h:Enm K w0 wr W vW p' ve' E'):w0.heap.size+1<wr.heap.size:=(zL h.res)
theorem Enm.kept{K:Sk}(h:Enm K w0 wr W vW p' ve' E')(y:zW wr w')(z:K.B<=wr.heap.size):Enm K w0 w' W vW p' ve' E':=by
 have D:=h.lt;exact⟨(y.block _ (by omega)).trans h.spot,(y.block _ D).trans h.res,h.at_.kept y,qab h.wi fun q I=>y.block q (h.wi.lt q I).2,h.ck.trans (Ck.of_below y z)⟩
theorem Enm.ended{K:Sk}{ve'':Value}{E'':List Et}(h:Enm K w0 wr W vW p' ve' E')(y:Ck K.B wr w')(z:K.at_ w' ve'' E''):Enm K w0 w' W vW p' ve'' E'':=by
 refine⟨(y.keep _ _ _ _ h.spot (by decide) (by decide)).trans h.spot,(y.keep _ _ _ _ h.res (by decide) (by decide)).trans h.res,z,qab h.wi fun q D=>?_,h.ck.trans y⟩;obtain⟨cur,I⟩:=qac h.wi q D;exact y.keep _ _ _ _ I (by decide) (by decide)
theorem qc0{k:Nat}(y:k≠g)(v0 v1 v2 v3 v4 v5:Value):(set6 w g v0 v1 v2 v3 v4 v5).heap[k]?=w.heap[k]?:=
 (xK _ _ _ _ y).trans ((xK _ _ _ _ y).trans ((xK _ _ _ _ y).trans ((xK _ _ _ _ y).trans ((xK _ _ _ _ y).trans (xK _ _ _ _ y)))))
theorem qmz{t:TypeId}{u0 u1 u2 u3 u4 u5:Value}(h:w.heap[g]?=zK #[u0,u1,u2,u3,u4,u5] t)(v0 v1 v2 v3 v4 v5:Value):(set6 w g v0 v1 v2 v3 v4 v5).heap[g]?=zK #[v0,v1,v2,v3,v4,v5] t:=by
 have y:=xG w g 0 _ _ v0 h;have z:=xG _ g 1 _ _ v1 y;have D:=xG _ g 2 _ _ v2 z;have I:=xG _ g 3 _ _ v3 D;have J:=xG _ g 4 _ _ v4 I;exact xG _ g 5 _ _ v5 J
theorem Enm.set{K:Sk}(h:Enm K w0 wr W vW p' ve' E')(D:K.B<=w0.heap.size)(q:Sp):Enm K w0 (set6 wr w0.heap.size (zI q.mode) (.string ⟨q.tag.toArray⟩) (.string ⟨q.attr.toArray⟩) (.string ⟨q.inside.toArray⟩) (.string ⟨q.run.toArray⟩) (zI q.far)) W vW q ve' E':=by
 have z:∀(k:Nat) (cs:Array Value) (t:TypeId) (fz:Nat×Nat),wr.heap[k]?=some (.cells cs t fz)->t≠94->(set6 wr w0.heap.size (zI q.mode) (.string ⟨q.tag.toArray⟩) (.string ⟨q.attr.toArray⟩) (.string ⟨q.inside.toArray⟩) (.string ⟨q.run.toArray⟩) (zI q.far)).heap[k]?=wr.heap[k]?:=fun k cs t fz I J=>qc0 (qae I h.spot J) _ _ _ _ _ _;have y:∀(e:TypeId) (sz n:Nat) (v:Value) (xs:List Value),wr.ownsRow K.B e sz v n xs->e≠94->(set6 wr w0.heap.size (zI q.mode) (.string ⟨q.tag.toArray⟩) (.string ⟨q.attr.toArray⟩) (.string ⟨q.inside.toArray⟩) (.string ⟨q.run.toArray⟩) (zI q.far)).ownsRow K.B e sz v n xs:=fun e sz n v xs O T=>qab O fun k I=>by
  obtain⟨cur,U⟩:=qac O k I;exact z _ _ _ _ U T
 refine⟨qmz h.spot _ _ _ _ _ _,(qc0 (by omega) _ _ _ _ _ _).trans h.res,⟨⟨(z _ _ _ _ h.at_.tp.blk (by decide)).trans h.at_.tp.blk,h.at_.tp.le,y _ _ _ _ _ h.at_.tp.parts (by decide),fun i s V=>⟨y _ _ _ _ _ (h.at_.tp.row i s V).1 (by decide),(h.at_.tp.row i s V).2⟩⟩,y _ _ _ _ _ h.at_.ends (by decide)⟩,y _ _ _ _ _ h.wi (by decide),qb9 h.ck.below D _ _ _ _ _ _,fun k cs t fz I X Y=>(qc0 (by have:=(ya.1 I).1;omega) _ _ _ _ _ _).trans (h.ck.keep k cs t fz I X Y)⟩
theorem Enm.drew{K:Sk}(h:Enm K w0 wr W vW p' ve' E'):Enm K w0 wr.drew W vW p' ve' E':=
 ⟨h.spot,h.res,⟨h.at_.tp.drew,qab h.at_.ends fun _ _=>rfl⟩,qab h.wi fun _ _=>rfl,h.ck.below.drew,h.ck.keep⟩
structure Enp(K:Sk)(R:List Vt)(E:List Et)(W:List Vt)(n:Nat)(x:Sx)(r:Nat)(P:List Pt)(i:Nat)(p':Sp)(x':Sx)(E':List Et)(r':Nat)(pre:List It):Prop where
 inv:EInv K.bd R r' E' W
 cm:Cm x'
 par:ParX x' p'
 sp:SpOk r' p'
 via:Via K.bd pre x x'
 its:K.bd n=pre++qd9 K.nm P i
 le:i<=P.length
 len:E.length<=E'.length
 up:r<=r'
 few:r'<=r+4000000*(E'.length - E.length)+2000*i
theorem q94{B:Nat->List It}(h:EInv B R r E W)(y:r<=r'):EInv B R r' E W:=⟨fun e z=>(h.each e z).le y,h.apart,h.wins⟩
theorem Enp.text{K:Sk}(h:Enp K R E W n x r P i p' x' E' r' pre){q:Pt}(y:P[i]?=some q)(z:q.kind=1)(D:q.text.length<=2000) :
  Enp K R E W n x r P (i+1) (qei p' q.text) (qax x' q.text) E' (r'+q.text.length) (pre++[.tx q.text]):=by
 have I:=(yb.1 y).1;have:=h.few;have:=h.up;exact⟨q94 h.inv (by omega),zaj _ _ h.cm,qx6 _ _ _ h.cm.fit.fit.ok h.par,spFromOk _ _ _ h.sp,qpq h.via (zgs _ _ _),by rw[h.its,qxq y z,yq];rfl,by omega,h.len,by omega,by omega⟩
theorem Enp.hole{K:Sk}(h:Enp K R E W n x r P i p' x' E' r' pre){q:Pt}(y:P[i]?=some q)(z:q.kind=2) :
  Enp K R E W n x r P (i+1) p'.behindHole x'.behindHole E' r' (pre++[.ho]):=by
 have D:=(yb.1 y).1;have:=h.few;refine⟨h.inv,zai h.cm,qhl _ _ h.cm.fit.fit.ok h.par,?_,qpq h.via (zgt _ _),by rw[h.its,qxr y z,yq];rfl,by omega,h.len,h.up,by omega⟩;unfold Sp.behindHole;split
 ·exact⟨h.sp.mode,h.sp.tag,h.sp.attr,h.sp.inside,h.sp.run⟩
 ·exact h.sp
theorem Enp.over{K:Sk}(h:Enp K R E W n x r P i p' x' E' r' pre){j:Nat}(y:i<=j)(z:j<P.length)(D:qd9 K.nm P i=qd9 K.nm P (j+1)) :
  Enp K R E W n x r P (j+1) p' x' E' r' pre:=by
 have:=h.few;exact⟨h.inv,h.cm,h.par,h.sp,h.via,by rw[h.its,D],by omega,h.len,h.up,by omega⟩
theorem Enp.call{K:Sk}(h:Enp K R E W n x r P i p' x' E' r' pre){q:Pt}(z:P[i]?=some q)(D:q.kind=6){m:Nat}(I:qfr K.nm q.text=some m)
  {p5:Sp} {y:Sx} {E5:List Et} {r5:Nat} (hd:Done K.bd m x' y) (J:ParX y p5) (O:Cm y) (T:EInv K.bd R r5 E5 W) (U:SpOk r5 p5) (V:E'.length<=E5.length) (X:r'<=r5) (Y:r5<=r'+4000000*(E5.length - E'.length)+0) :
  Enp K R E W n x r P (i+1) p5 y E5 r5 (pre++[.ca m]):=by
 have Z:=(yb.1 z).1;have:=h.few;have:=h.len;have:=h.up;exact⟨T,O,J,U,qpq h.via (q64 hd),by rw[h.its,qta z D I,yq];rfl,by omega,by omega,by omega,by omega⟩
theorem q3e{N:List zU}{x:zU}{m:Nat}(h:qfr N x=some m):m<N.length:=by
 unfold qfr at h;rw[List.findIdx?_eq_some_iff_getElem]at h;exact h.1
theorem Enp.named{K:Sk}(h:Enp K R E W n x r P i p' x' E' r' pre){q:Pt}(z:P[i]?=some q)(D:q.kind=6){m:Nat}(I:qfr K.nm q.text=some m)(J:K.bd n=Pl.its K.nm P)(O:P.length<=2000)(T:K.N.length<=6)(y:InS K.bd R (n,x))(U:Cm x) :
  m<K.N.length/\InS K.bd R (m,x')/\Need K.bd (n,x) (m,x'):=by
 have V:m<K.N.length:=by
  have:=q3e I;unfold Sk.nm at this
  rwa [yR]at this
 have X:K.bd n=pre++.ca m::qd9 K.nm P (i+1):=by rw[h.its,qta z D I]
 refine⟨V,zfw (k:=pre.length) y U.fit ?_ ⟨?_,?_⟩ (by show m<6;omega) h.cm.fit.fit.ok.st.name,zfj X h.via⟩
 ·show (K.bd n).length<=2000
  rw[J];exact yh (qmu _ _ _ _) O
 ·show (K.bd n)[pre.length]?=_
  rw[X,yt (yg _),xz];rfl
 ·show Via K.bd ((K.bd n).take pre.length) x x'
  rw[X,List.take_left']
  ·exact h.via
  ·rfl
variable{K:Sk}{W:List Vt}{vW:Value}
theorem Enm.out{w0 wr:World}{p':Sp}{ve':Value}{E':List Et}(h:Enm K w0 wr W vW p' ve' E')(D:K.B<=w0.heap.size)(v0 v1 v2 v3 v4 v5:Value):K.at_ (set6 wr (w0.heap.size+1) v0 v1 v2 v3 v4 v5) ve' E'/\Ck K.B w0 (set6 wr (w0.heap.size+1) v0 v1 v2 v3 v4 v5):=by
 have z:∀(k:Nat) (cs:Array Value) (t:TypeId) (fz:Nat×Nat),wr.heap[k]?=some (.cells cs t fz)->t≠94->(set6 wr (w0.heap.size+1) v0 v1 v2 v3 v4 v5).heap[k]?=wr.heap[k]?:=fun k cs t fz I J=>qc0 (qae I h.res J) _ _ _ _ _ _;have y:∀(e:TypeId) (sz n:Nat) (v:Value) (xs:List Value),wr.ownsRow K.B e sz v n xs->e≠94->(set6 wr (w0.heap.size+1) v0 v1 v2 v3 v4 v5).ownsRow K.B e sz v n xs:=fun e sz n v xs O T=>qab O fun k I=>by
  obtain⟨cur,U⟩:=qac O k I;exact z _ _ _ _ U T
 exact⟨⟨⟨(z _ _ _ _ h.at_.tp.blk (by decide)).trans h.at_.tp.blk,h.at_.tp.le,y _ _ _ _ _ h.at_.tp.parts (by decide),fun i s V=>⟨y _ _ _ _ _ (h.at_.tp.row i s V).1 (by decide),(h.at_.tp.row i s V).2⟩⟩,y _ _ _ _ _ h.at_.ends (by decide)⟩,qb9 h.ck.below (by omega) _ _ _ _ _ _,fun k cs t fz I X Y=>(qc0 (by have:=(ya.1 I).1;omega) _ _ _ _ _ _).trans (h.ck.keep k cs t fz I X Y)⟩
theorem qvp{R:List Vt}{w w5:World}{E:List Et}{n:Nat}{x:Sx}{r:Nat}{p5:Sp}{ve5:Value}{E5:List Et}{r5:Nat}{ok:Bool}{a:Act}(V:K.B<=w.heap.size)(X:Enm K w w5 W vW p5 ve5 E5)(z:EInv K.bd R r5 E5 W)(J:SpOk r5 p5)(D:E.length<=E5.length)(O:r<=r5)(T:r5<=r+4000000*(E5.length - E.length)+4000000)
  (I:ok=true->∃y,Done K.bd n x y/\ParX y p5/\Cm y) (U:ok=false->∀y,¬Done K.bd n x y) (Y:a.tmps.getD 8 undef=zP (w.heap.size+1)) (Z:a.tmps.getD 9 undef=.bool ok) (hd:a.defers=[]) :
  bodyPost prog f89 (fun e w'=>EdO K R w E W n x r 4000000 e w') .ret a (set6 w5 (w.heap.size+1) (zI p5.mode) (.string ⟨p5.tag.toArray⟩) (.string ⟨p5.attr.toArray⟩) (.string ⟨p5.inside.toArray⟩) (.string ⟨p5.run.toArray⟩) (zI p5.far)):=by
 have ho:=X.out V (zI p5.mode) (.string ⟨p5.tag.toArray⟩) (.string ⟨p5.attr.toArray⟩) (.string ⟨p5.inside.toArray⟩) (.string ⟨p5.run.toArray⟩) (zI p5.far);refine qbz results89 (w.heap.size+1) _ underlying94 rfl (by kernel_rfl) Y ⟨_,_,X.res,rfl⟩ hd _ _ _ _ _ _ _ Z ?_;exact⟨p5,ok,ve5,E5,r5,rfl,ho.1,z,J,D,O,T,I,U,ho.2⟩
theorem q90(K:Sk)(R:List Vt)(hK:SkOk K)(k:Nat)(HE:EndC K R k):zhw K R k:=by
 intro w ve vW E W n x p r hg Hl Ha Hm Hb Hv hn Hc hW hB hk hr;obtain⟨s,hs⟩:∃s,K.S[n+1]?=some s:=⟨_,yc (by rw[hK.len];omega)⟩;have hP:qah K.S (n+1)=s.parts:=by unfold qah;rw[hs]
 obtain⟨ao,cap,hv⟩:=qaq (hg.tp.row (n+1) s hs).1;rw[hv];obtain⟨Q,Hg⟩:∃Q:Ending->World->Prop,Q=fun e w'=>EdO K R w E W n x r 4000000 e w':=⟨_,rfl⟩;rw[<-Hg];have V:=(hg.tp.row (n+1) s hs).2.len;have H0:Hid (Enm K w ((w.alloc (.cells (qan p) 94)).alloc (.cells #[zI 0,zS,zS,zS,zS,zI 0] 94)) W vW p ve E):=by
  have hb:=((xL w.heap.size w).alloc (yg _) (.cells (qan p) 94)).alloc (by simp) (.cells #[zI 0,zS,zS,zS,zS,zI 0] 94);exact⟨(xI _ _ (by simp)).trans (xF _ _),qap _ _ _ (by simp),hg.kept hb,qab Hl fun q hq=>hb.block q (Hl.lt q hq).2,Ck.of_below hb hB⟩
 have Hw:Hid (Enp K R E W n x r s.parts 0 p x E r []):=⟨Ha,Hm,Hb,Hv,zeq _ _,by unfold Sk.bd;rw[hP];rfl,yH _,yg _,yg _,by omega⟩;unfold qaz;unfold qan at H0 |-;go_enter func89,ntmps89
 go_wp2
 generalize World.alloc _ _=w1 at H0 |-;have hx:=zH V;have He:=zH hK;have HS:=zH hs;have HV:=zH hv;have T:=zH hB;have HX:=(show Hid (K.bd n=_/\n<K.N.length/\InS K.bd R (n,x)/\Cm x/\(∀u∈W,u=(n,x)\/Need K.bd u (n,x)))from⟨(show K.bd n=its K.nm s.parts by unfold Sk.bd;rw[hP]),hn,Hc,Hm,hW⟩);have Hn:=zH (And.intro hk hr);have hD:s.parts.length<=2000:=(hK.ok.parts (n+1) s hs).1;rw[V];clear hg Hl Ha Hm Hb Hv hn Hc hW hB hk hr hP hs hv V hK;go_loopw [10] (fun v10 wr=>∃(i:Nat) (p':Sp) (x':Sx) (ve':Value) (E':List Et) (r':Nat) (pre:List It),v10=zI i/\Hid (Enm K w wr W vW p' ve' E')/\Hid (Enp K R E W n x r s.parts i p' x' E' r' pre)) (fun v10 _=>s.parts.length - (intOf v10).toNat)
 case atStart=>exact⟨0,p,x,ve,E,r,[],rfl,H0,Hw⟩
 case round=>
  clear H0 Hw;obtain⟨i,p',x',ve',E',r',pre,rfl,HM,HP⟩:=hrel;have hE:=HP.out.le;have q0:=qaa HM.out.spot 0 _ rfl;have q1:=qaa HM.out.spot 1 _ rfl;have q2:=qaa HM.out.spot 2 _ rfl;have q3:=qaa HM.out.spot 3 _ rfl;have q4:=qaa HM.out.spot 4 _ rfl;have q5:=qaa HM.out.spot 5 _ rfl;have hF:=zH HM.out.lt;by_cases Hi:i<s.parts.length
  rotate_left
  ·have ho:¬(i:Int)<(s.parts.length:Int):=by omega
   have r0:=qaa HM.out.res 0 _ rfl;have r1:=qaa HM.out.res 1 _ rfl;have r2:=qaa HM.out.res 2 _ rfl;have r3:=qaa HM.out.res 3 _ rfl;have r4:=qaa HM.out.res 4 _ rfl;have r5:=qaa HM.out.res 5 _ rfl;have f0:=fun i=>xH _ _ i _ _ HM.out.res;have HF:Hid (Done K.bd n x x'):=by
    have hv:=HP.out.via;have hi:=HP.out.its;rw[q1e (by omega),yw]at hi;rw[<-hi]at hv;exact za5 hv
   go_wp2
   try rw[Hg]
   refine qvp (ok:=true) T.out HM.out HP.out.inv HP.out.sp HP.out.len HP.out.up (by have:=HP.out.few;omega) (fun _=>⟨x',HF.out,HP.out.par,HP.out.cm⟩) (fun h=>nomatch h) ?_ ?_ ?_
   all_goals rfl
  obtain⟨g7,cap7,h7,_,_⟩:=qai (HM.out.at_.tp.row (n+1) s HS.out).1 (by rw[hx.out];omega);rw[HV.out]at h7;obtain⟨rfl,rfl⟩:ao=some (zO g7 0)/\cap=cap7:=by injection h7 with a _ c;exact⟨a,c⟩
  clear h7;obtain⟨pt,Ho⟩:∃pt,s.parts[i]?=some pt:=⟨_,yc Hi⟩;obtain⟨rm,hj⟩:∃rm,(K.RL (n+1))[i]?=some rm:=⟨_,yc (by rw[hx.out];exact Hi)⟩;have Hj:=(HM.out.at_.tp.row (n+1) s HS.out).2.each i rm pt hj Ho;have X:=(HM.out.at_.tp.row (n+1) s HS.out).1;rw[HV.out]at X;have hc:=fun j v (hv:(qdi rm)[j]?=some v)=>(X.cellAt (i*6+j) (by have:=qd5 _ i rm hj j v hv;have:=(yb.1 this).1;rw[qqf]at this;exact this)).trans (qd5 _ i rm hj j v hv);have c0:wr.cell? (zO g7 (i*6+0))=some (zI (Pl.qb3 pt.kind)):=(hc 0 _ rfl).trans (by rw[Hj.kd]);have Hx:Hid (wr.cell? (zO g7 (i*6+2))=some (.string ⟨pt.text.toArray⟩)):=(hc 2 _ rfl).trans (by rw[Hj.text]);have hG:Hid (wr.cell? (zO g7 (i*6+5))=some (zI ((if pt.kind=3\/pt.kind=4 then pt.mate - i else 0:Nat)))):=(hc 5 _ rfl).trans (by rw[Hj.en]);have U:=zH Ho;clear hc X Hj hj Ho;have ho:(i:Int)<(s.parts.length:Int):=by omega
  simp only[Nat.add_zero]at c0;go_upto_block 1 with fail
  go_cut [10,11,12,13,14,15]from 16 to 87 (fun v10 v11 v12 v13 v14 v15 wx=>∃(j:Nat) (p'':Sp) (x'':Sx) (ve'':Value) (E'':List Et) (r'':Nat) (pre'':List It),i<=j/\v10=zI j/\Hid (Enm K w wx W vW p'' ve'' E'')/\Hid (Enp K R E W n x r s.parts (j+1) p'' x'' E'' r'' pre''))
  case first=>
   have hf:=HP.out.few;have hu:=HP.out.up;have hl:=HP.out.len;have he:=HP.out.inv.few;have HG:=Hn.out.2;have hy:r'<=1900000000000000000:=by omega
   have hp:=zH hy;clear hf hu hl he HG hy;have Hp:=(show Hid (K.B<=wr.heap.size)from yh T.out (by have:=hF.out;omega));have hq:pt.text.length<=2000/\pt.mate<=2000:=by have:=(He.out.ok.parts (n+1) s HS.out).2 pt (yl U.out);exact⟨this.1,this.2.2⟩
   have Hq:=zH hq;clear hq;have ha:=qo5 (He.out.ok.wf (n+1) s HS.out) pt (yl U.out);by_cases k1:pt.kind=1
   ·rw[show Pl.qb3 pt.kind=0 by rw[k1];rfl]at c0
    have hT:=fun W'=>qwq p' r' ⟨pt.text.toArray⟩ W' HP.out.sp (by have:=hp.out;have:=Hq.out.1;rw[qb1];omega);unfold qaz qan at hT;have HT:=zH hT;have HN:=zH (HP.out.text U.out k1 Hq.out.1);have c2:=Hx.out;clear hT k1 ha;go_upto_region 6 with fail
    go_region_with (go_at_call 54;refine(HT.out _).mono ?_;rintro e w5 ⟨rfl,hb⟩;have D:=zH (HM.out.kept ⟨hb.os,hb.tape,hb.output,hb.size,hb.block⟩ Hp.out);have u0:=qaa D.out.spot 0 _ rfl;have u1:=qaa D.out.spot 1 _ rfl;have u2:=qaa D.out.spot 2 _ rfl;have u3:=qaa D.out.spot 3 _ rfl;have u4:=qaa D.out.spot 4 _ rfl;have u5:=qaa D.out.spot 5 _ rfl;have f0:=fun i=>xH _ _ i _ _ D.out.spot;clear hb;dsimp only)
    all_goals
     go_wp2
     go_meet
     exact⟨i,_,_,_,_,_,_,yg _,rfl,D.out.set T.out (qei p' pt.text),HN.out⟩
   by_cases k2:pt.kind=2
   ·rw[show Pl.qb3 pt.kind=1 by rw[k2];rfl]at c0
    have hT:=fun W'=>qx0 p' W' (by have:=HP.out.sp.tag;omega) (by have:=HP.out.sp.attr;omega) (by have:=HP.out.sp.inside;omega) (by have:=HP.out.sp.run;have:=hp.out;omega);unfold qaz qan at hT;have HT:=zH hT;have HN:=zH (HP.out.hole U.out k2);clear hT k1 k2 ha;generalize p'.view.hole=vh at HT;generalize Sp.behindHole p'=ph at HT HN;go_wp2_with (go_at_call 55;refine(HT.out _).mono ?_;rintro e w5 ⟨rfl,hb⟩;have D:=zH (HM.out.kept ⟨hb.os,hb.tape,hb.output,hb.size,hb.block⟩ Hp.out);have u0:=qaa D.out.spot 0 _ rfl;have u1:=qaa D.out.spot 1 _ rfl;have u2:=qaa D.out.spot 2 _ rfl;have u3:=qaa D.out.spot 3 _ rfl;have u4:=qaa D.out.spot 4 _ rfl;have u5:=qaa D.out.spot 5 _ rfl;have f0:=fun i=>xH _ _ i _ _ D.out.spot;clear hb;dsimp only)
    go_meet
    exact⟨i,_,_,_,_,_,_,yg _,rfl,D.out.set T.out ph,HN.out⟩
   by_cases k34:pt.kind=3\/pt.kind=4
   ·rw[show Pl.qb3 pt.kind=2 by rcases k34 with h | h<;>rw[h]<;>rfl]at c0
    have hm:=qh1 (He.out.ok.wf (n+1) s HS.out) i pt U.out k34;have hI:=hG.out;rw[if_pos k34]at hI;have HN:=zH (HP.out.over (j:=pt.mate) (by omega) (by omega) (q1d U.out k34 (by omega)));have HI:(i:Int)+((pt.mate - i:Nat):Int)=(pt.mate:Int):=by omega
    have hJ:=(show Hid (i<=pt.mate) by show _<=_;omega);have hQ:pt.mate<=2000:=Hq.out.2;clear hm k1 k2 k34 ha;go_wp2
    go_meet
    exact⟨pt.mate,_,_,_,_,_,_,hJ.out,by first|rfl|(congr 1;unfold wrap64;omega),HM.out,HN.out⟩
   by_cases k5:pt.kind=5
   ·rw[show Pl.qb3 pt.kind=3 by rw[k5];rfl]at c0
    have HN:=zH (HP.out.over (j:=i) (yg _) Hi (qs9 U.out (.inl k5)));clear k1 k2 k34 k5 ha;go_wp2
    go_meet
    exact⟨i,_,_,_,_,_,_,yg _,rfl,HM.out,HN.out⟩
   have k6:pt.kind=6:=by omega
   rw[show Pl.qb3 pt.kind=4 by rw[k6];rfl]at c0;have c2:=Hx.out;have Hy:=zH (q8h ⟨pt.text.toArray⟩ HM.out.at_.tp (by have:=He.out.six;omega));cases Y:qfr K.nm pt.text
   ·have HN:=zH (HP.out.over (j:=i) (yg _) Hi (qs9 U.out (.inr ⟨k6,Y⟩)))
    have Hk:=(show Hid (qfr (K.N.map fun y=>y.data.toList) (⟨pt.text.toArray⟩:zT).data.toList=none)from Y);have HJ:Hid (zC 56 #[zP K.g,.string ⟨pt.text.toArray⟩] wr fun e w'=>e=.returned (zI (-1))/\w'=wr):=by
     refine xQ Hy.out ?_;rintro e w' ⟨⟨rr,rfl,Hr⟩,hw⟩;rcases Hr with⟨rfl,_⟩|⟨k,_,h⟩
     ·exact⟨rfl,hw⟩
     ·rw[Hk.out]at h;cases h
    clear k1 k2 k34 k5 k6 ha Y;go_wp2_with (go_at_call 56;refine xQ HJ.out ?_;rintro e w5 ⟨rfl,rfl⟩;dsimp only)
    go_meet
    exact⟨i,_,_,_,_,_,_,yg _,rfl,HM.out,HN.out⟩
   next m=>
   have Hk:=(show Hid (qfr (K.N.map fun y=>y.data.toList) (⟨pt.text.toArray⟩:zT).data.toList=some m)from Y);have Z:=zH (HP.out.named U.out k6 Y HX.out.1 hD He.out.six HX.out.2.2.1 HX.out.2.2.2.1);have HK:=(show Hid (∀ {p5:Sp} {y:Sx} {E5:List Et} {r5:Nat} (_:Done K.bd m x' y) (_:ParX y p5) (_:Cm y) (_:EInv K.bd R r5 E5 W) (_:SpOk r5 p5) (_:E'.length<=E5.length) (_:r'<=r5) (_:r5<=r'+4000000*(E5.length - E'.length)+0),Enp K R E W n x r s.parts (i+1) p5 y E5 r5 (pre++[.ca m]))from fun a b c d e f g h=>HP.out.call U.out k6 Y a b c d e f g h);clear k1 k2 k34 k5 k6 ha Y;have hS:=fun W'=>qrw p' W' (by have:=HP.out.sp.tag;omega) (by have:=HP.out.sp.attr;omega) (by have:=HP.out.sp.inside;omega) (by have:=HP.out.sp.run;have:=hp.out;omega);rw[qmb _ _ HP.out.cm.fit.fit.ok HP.out.par]at hS;unfold qaz qan qwb qfa at hS;have hL:=zH hS;clear hS;have HQ:¬(m:Int)<0:=by omega
   have HL:Hid (zC 56 #[zP K.g,.string ⟨pt.text.toArray⟩] wr fun e w'=>e=.returned (zI m)/\w'=wr):=by
    refine xQ Hy.out ?_;rintro e w' ⟨⟨rr,rfl,Hr⟩,hw⟩;rcases Hr with⟨rfl,h⟩|⟨k,rfl,h⟩
    ·rw[Hk.out]at h;cases h
    ·rw[Hk.out]at h
     injection h with h;exact⟨by rw[h],hw⟩
   go_upto_region 14 with(go_at_call 56;refine xQ HL.out ?_;rintro e w5 ⟨rfl,rfl⟩;dsimp only)
   go_upto_region 15 with(go_at_call 41;refine(hL.out _).mono ?_;rintro e w5 ⟨rfl,hb⟩;have D:=zH (HM.out.kept ⟨hb.os,hb.tape,hb.output,hb.size,hb.block⟩ Hp.out);clear hb;dsimp only)
   have Hf:=zH (D.out.kept (w':=w5.alloc (.cells #[zI m,zI x'.view.mode,zI x'.view.elem,zI x'.view.attr,zI x'.view.ends,zI x'.view.esc,zI x'.view.pct,zI x'.view.link,.string ⟨x'.view.name.toArray⟩,.bool x'.view.ref] 143)) (zB _) (yh T.out (by have:=D.out.lt;omega)));have z:=xF w5 (.cells #[zI m,zI x'.view.mode,zI x'.view.elem,zI x'.view.attr,zI x'.view.ends,zI x'.view.esc,zI x'.view.pct,zI x'.view.link,.string ⟨x'.view.name.toArray⟩,.bool x'.view.ref] 143);generalize World.alloc w5 _=w6 at Hf z |-;generalize w5.heap.size=VB at z |-;have v0:=qaa z 0 _ rfl;have v1:=qaa z 1 _ rfl;have v2:=qaa z 2 _ rfl;have v3:=qaa z 3 _ rfl;have v4:=qaa z 4 _ rfl;have v5:=qaa z 5 _ rfl;have v6:=qaa z 6 _ rfl;have v7:=qaa z 7 _ rfl;have v8:=qaa z 8 _ rfl;have v9:=qaa z 9 _ rfl;clear z D q0 q1 q2 q3 q4 q5 c0 c2;have Hs:=fun(W':World) (h:W'.ownsRow K.B 143 10 vW W.length (qcv W))=>qpp K.B vW W m x' W' (by have:=HP.out.inv.few;omega) h (fun u hu=>(HP.out.inv.wins u hu).2) HP.out.cm;unfold qfv at Hs;have hz:=zH Hs;clear Hs;go_upto_if 74 with(go_at_call 57;refine xQ (hz.out _ Hf.out.wi) ?_;rintro e w7 ⟨⟨b,rfl,hb⟩,Hz⟩;have hA:=zH hb;have O:=zH (Hf.out.kept Hz (yh T.out (by have:=Hf.out.lt;omega)));clear hb Hz;dsimp only)
   have q0:=qaa O.out.spot 0 _ rfl;have q1:=qaa O.out.spot 1 _ rfl;have q2:=qaa O.out.spot 2 _ rfl;have q3:=qaa O.out.spot 3 _ rfl;have q4:=qaa O.out.spot 4 _ rfl;have q5:=qaa O.out.spot 5 _ rfl;clear v0 v1 v2 v3 v4 v5 v6 v7 v8 v9 Hf hz;cases b
   rotate_left
   ·have ht:Hid (∀y,¬Done K.bd n x y):=by
     have hM:=hA.out.1 rfl;rcases HX.out.2.2.2.2 _ hM with e|e
     ·have:=Z.out.2.2
      rw[e]at this;exact Need.self this
     ·exact Need.self (Z.out.2.2.trans e)
    have J:=O;have rs0:=qaa J.out.res 0 _ rfl;have rs1:=qaa J.out.res 1 _ rfl;have rs2:=qaa J.out.res 2 _ rfl;have rs3:=qaa J.out.res 3 _ rfl;have rs4:=qaa J.out.res 4 _ rfl;have rs5:=qaa J.out.res 5 _ rfl;have z0:=fun i=>xH _ _ i _ _ J.out.res;go_wp2
    try rw[Hg]
    refine qvp (ok:=false) T.out O.out HP.out.inv HP.out.sp HP.out.len HP.out.up (by have:=HP.out.few;omega) (fun h=>nomatch h) (fun _=>ht.out) ?_ ?_ ?_
    all_goals rfl
   have hN:=(show Hid ((m,x')∉W) from fun h=>by have:=hA.out.2 h;cases this);have Ht:=HE w7 ve' vW E' W m x' p' r' O.out.at_ O.out.wi HP.out.inv HP.out.cm HP.out.par HP.out.sp Z.out.1 Z.out.2.1 hN.out (fun u hu=>by
    rcases HX.out.2.2.2.2 u hu with e|e
    ·rw[e];exact Z.out.2.2
    ·exact e.trans Z.out.2.2) (yh T.out (by have:=O.out.lt;omega)) (by have:=Hn.out.1;have:=HP.out.len;omega) (by have:=Hn.out.2;have:=HP.out.few;have:=HP.out.len;have:=HP.out.inv.few;omega)
   unfold qaz qan at Ht;have hO:=zH Ht;clear Ht;go_upto_region 19 with(go_at_call 58;refine xQ hO.out ?_;rintro e w8 ⟨p5,ok,ve5,E5,r5,rfl,hd⟩;unfold qaz qan;have HD:=zH hd;clear hd;dsimp only)
   have Hu:=zH (O.out.ended HD.out.ck HD.out.at_);have I:=zH (Hu.out.kept (w':=w8.alloc (.cells (qan p5) 94)) (zB _) (yh T.out (by have:=Hu.out.lt;omega)));have z:=xF w8 (.cells (qan p5) 94);unfold qan at I z;generalize World.alloc w8 _=w9 at I z |-;generalize w8.heap.size=TB at z |-;have v0:=qaa z 0 _ rfl;have v1:=qaa z 1 _ rfl;have v2:=qaa z 2 _ rfl;have v3:=qaa z 3 _ rfl;have v4:=qaa z 4 _ rfl;have v5:=qaa z 5 _ rfl;clear z q0 q1 q2 q3 q4 q5 Hu O;cases ok
   ·have ht:Hid (∀y,¬Done K.bd n x y):=Need.not Z.out.2.2 (HD.out.no rfl)
    have J:=I;have q0:=qaa I.out.spot 0 _ rfl;have q1:=qaa I.out.spot 1 _ rfl;have q2:=qaa I.out.spot 2 _ rfl;have q3:=qaa I.out.spot 3 _ rfl;have q4:=qaa I.out.spot 4 _ rfl;have q5:=qaa I.out.spot 5 _ rfl;have rs0:=qaa J.out.res 0 _ rfl;have rs1:=qaa J.out.res 1 _ rfl;have rs2:=qaa J.out.res 2 _ rfl;have rs3:=qaa J.out.res 3 _ rfl;have rs4:=qaa J.out.res 4 _ rfl;have rs5:=qaa J.out.res 5 _ rfl;have z0:=fun i=>xH _ _ i _ _ J.out.res;go_wp2
    try rw[Hg]
    refine qvp (ok:=false) (p5:=p') (r5:=r5) T.out I.out HD.out.inv (HP.out.sp.le HD.out.up) (yh HP.out.len HD.out.len) (yh HP.out.up HD.out.up) (by have:=HP.out.few;have:=HD.out.le;have:=HD.out.len;have:=HP.out.len;omega) (fun h=>nomatch h) (fun _=>ht.out) ?_ ?_ ?_
    all_goals rfl
   obtain⟨y,HA,HB,hC⟩:=HD.out.yes rfl;have HN:=zH (HK.out HA HB hC HD.out.inv HD.out.sp HD.out.len HD.out.up HD.out.le);clear HA HB hC;have u0:=qaa I.out.spot 0 _ rfl;have u1:=qaa I.out.spot 1 _ rfl;have u2:=qaa I.out.spot 2 _ rfl;have u3:=qaa I.out.spot 3 _ rfl;have u4:=qaa I.out.spot 4 _ rfl;have u5:=qaa I.out.spot 5 _ rfl;have f0:=fun i=>xH _ _ i _ _ I.out.spot;go_wp2
   go_meet
   exact⟨i,_,_,_,_,_,_,yg _,rfl,I.out.set T.out p5,HN.out⟩
  case rest=>
  obtain⟨j,p'',x'',ve'',E'',r'',pre'',hR,rfl,HO,HC⟩:=hcut;have HR:=HC.out.le;go_wp2
  refine⟨⟨j+1,p'',x'',ve'',E'',r'',pre'',by go_num,HO,HC⟩,?_⟩;simp[intOf];omega
section
open Go.Maps
structure VwFit(v:Vw):Prop where
 i0:(Lit.int .i64 v.mode).wf=true
 i1:(Lit.int .i64 v.elem).wf=true
 i2:(Lit.int .i64 v.attr).wf=true
 i3:(Lit.int .i64 v.ends).wf=true
 i4:(Lit.int .i64 v.esc).wf=true
 i5:(Lit.int .i64 v.pct).wf=true
 i6:(Lit.int .i64 v.link).wf=true
 nm:v.name.length<=9
theorem qhr{x:Sx}(h:Cm x):VwFit x.view:=by
 obtain⟨y,z,D,I,J,O,T⟩:=qz7 h.fit.fit.ok;have U:=h.fit.fit.ok.st.hi;have V:=h.fit.fit.ok.st.wrap;have X:=h.fit.fit.ok.ma.hex;refine⟨WalkArith.wf_i64 (by show _/\_;unfold Sx.view;simp only;omega),WalkArith.wf_i64 ?_,WalkArith.wf_i64 ?_,J,WalkArith.wf_i64 ?_,T,WalkArith.wf_i64 ?_,z⟩
 ·have:=qhh x.st.elem
  unfold Sx.view;simp only;omega
 ·unfold Sx.view;simp only;split<;>omega
 ·unfold Sx.view;simp only;repeat' split
  all_goals omega
 ·unfold Sx.view;simp only;unfold qj4;repeat' split
  all_goals omega
theorem qts:prog.cellsOf 111=9:=by kernel_rfl
theorem qrk:prog.cellsOf 143=10:=by kernel_rfl
theorem zen(d:Nat){v:Vw}(h:VwFit v):∃l,prog.keyLits (d+2) 111 [zI v.mode,zI v.elem,zI v.attr,zI v.ends,zI v.esc,zI v.pct,zI v.link,.string ⟨v.name.toArray⟩,.bool v.ref]=some l:=by
 have y:(⟨v.name.toArray⟩:zT).size<=maxLen:=by have:=h.nm;simp[ByteArray.size];unfold maxLen;omega
 unfold Program.keyLits;simp only[underlying111];simp[qts,qj9,qy4,qtt,qxo,zd9,q87,h.i0,h.i1,h.i2,h.i3,h.i4,h.i5,h.i6,y]
theorem zdx{n:Nat}{v:Vw}(h:VwFit v)(D:n<=100):∃l,keyOf prog 143 (qfv n v)=some l:=by
 obtain⟨d,I⟩:∃d,prog.types.size+1=(d+2)+1:=⟨prog.types.size - 2,by
  have:4<=prog.types.size:=by decide +kernel
  omega⟩
 obtain⟨l,J⟩:=zen d h;have O:prog.keyType 143=true:=by kernel_rfl
 have z:(qfv n v).formed prog 143=true:=by
  unfold qfv Value.formed;simp[underlying143,qrk]
 unfold keyOf;simp only[underlying143];rw[O,z,I];unfold Program.keyLits;simp only[underlying143];have y:(Lit.int .i64 (n:Int)).wf=true:=WalkArith.wf_i64 (by omega);unfold qfv;simp[Value.cells,qrk,qts,qj9,qxo,y,J]
theorem q65{n m:Nat}{v u:Vw}(h:qfv n v=qfv m u):n=m/\v=u:=by
 obtain⟨a,b,c,d,e,f,g,nm,r⟩:=v;obtain⟨a',b',c',d',e',f',g',nm',r'⟩:=u;unfold qfv at h;simp only[Value.agg.injEq,Array.mk.injEq,List.cons.injEq,Value.int.injEq,true_and,Value.string.injEq,Value.bool.injEq,and_true,ByteArray.mk.injEq]at h;obtain⟨z,D,I,J,O,T,U,V,X,Y⟩:=h;have y:nm=nm':=by simpa using X
 subst D I J O T U V y Y;exact⟨by omega,rfl⟩
theorem q2k(w:World){n m:Nat}{v u:Vw}(z:VwFit v)(D:VwFit u)(I:n<=100)(J:m<=100){b:Bool}(O:b=true↔(n=m/\v=u)):(Op.equal 143 (qfv n v) (qfv m u)).run prog w=.ok b w:=by
 obtain⟨lx,T⟩:=zdx z I;obtain⟨ly,U⟩:=zdx D J;obtain⟨r,V,y⟩:=run_equal_deep w (m:=4) (by decide) (by kernel_rfl) (by kernel_rfl) T U;rw[V];have:r=b:=by
  rw[xh,y,O];constructor
  ·intro e
   exact q65 (keyOf_inj_deep (m:=4) (k:=143) (by kernel_rfl) (by kernel_rfl) T (by rw[U,e]))
  ·rintro⟨rfl,rfl⟩
   rw[T]at U;exact yk U
 rw[this]
theorem qsd(w:World)(n m:Nat)(v u:Vw)(o1 o2:Operand):(eqGuard .eql 143 o1 o2 (qfv n v) (qfv m u)).run prog w=.ok () w:=by
 have:prog.eqGuardType prog.depth 143=false:=by kernel_rfl
 unfold eqGuard qfv;simp[run_program,this]
theorem zdy(w:World){n m:Nat}{v u:Vw}(y:VwFit v)(z:VwFit u)(D:n<=100)(I:m<=100){b:Bool}(J:b=true↔(n=m/\v=u)):(binOp .eql 143 (qfv n v) (qfv m u)).run prog w=.ok (.bool b) w:=by
 have h:=q2k w y z D I J;unfold binOp qfv;unfold qfv at h;simp[h]
theorem qse(w:World){n m:Nat}{v u:Vw}(y:VwFit v)(z:VwFit u)(D:n<=100)(I:m<=100){b:Bool}(J:b=true↔(n=m/\v=u)):(Op.equalIn 10000 143 (qfv n v) (qfv m u)).run prog w=.ok b w:=by
 have h:=q2k w y z D I J;unfold qfv at h |-;simpa [Op.equal,Op.maxDepth]using h
end
variable{K:Sk}{w0 wr w w1 w':World}{W:List Vt}{vW ve' vp ve:Value}{p':Sp}{E' E:List Et}{B g:Nat}{S:List Src}{pv:Nat->Value}{RL:Nat->List Rm}
theorem Enm.setFar(h:Enm K w0 wr W vW p' ve' E')(I:K.B<=w0.heap.size){g:Nat}{cs:Array Value}{fz:Nat×Nat}(J:wr.heap[g]?=some (.cells cs 94 fz))(D:w0.heap.size+1<g)(v0 v1 v2 v3 v4 v5:Value):Enm K w0 (set6 wr g v0 v1 v2 v3 v4 v5) W vW p' ve' E':=by
 have z:∀(k:Nat) (cs:Array Value) (t:TypeId) (fz:Nat×Nat),wr.heap[k]?=some (.cells cs t fz)->t≠94->(set6 wr g v0 v1 v2 v3 v4 v5).heap[k]?=wr.heap[k]?:=fun k cs t fz O T=>qc0 (qae O J T) _ _ _ _ _ _;have y:∀(e:TypeId) (sz n:Nat) (v:Value) (xs:List Value),wr.ownsRow K.B e sz v n xs->e≠94->(set6 wr g v0 v1 v2 v3 v4 v5).ownsRow K.B e sz v n xs:=fun e sz n v xs U V=>qab U fun k O=>by
  obtain⟨cur,X⟩:=qac U k O;exact z _ _ _ _ X V
 exact⟨(qc0 (by omega) _ _ _ _ _ _).trans h.spot,(qc0 (by omega) _ _ _ _ _ _).trans h.res,⟨⟨(z _ _ _ _ h.at_.tp.blk (by decide)).trans h.at_.tp.blk,h.at_.tp.le,y _ _ _ _ _ h.at_.tp.parts (by decide),fun i s Y=>⟨y _ _ _ _ _ (h.at_.tp.row i s Y).1 (by decide),(h.at_.tp.row i s Y).2⟩⟩,y _ _ _ _ _ h.at_.ends (by decide)⟩,y _ _ _ _ _ h.wi (by decide),qb9 h.ck.below (by omega) _ _ _ _ _ _,fun k cs t fz O Z h2=>(qc0 (by have:=(ya.1 O).1;omega) _ _ _ _ _ _).trans (h.ck.keep k cs t fz O Z h2)⟩
theorem EnAt.apart{N:List zT}(h:EnAt w B g S N pv RL vp ve E)(D:zW w w1)(z:w1.grownBy w' ve.ownBlock){k:Nat}{cs:Array Value}{t:TypeId}{fz:Nat×Nat}(I:w.heap[k]?=some (.cells cs t fz))(J:t≠201):w'.heap[k]?=w.heap[k]?:=by
 have y:=(ya.1 I).1;refine(z.block k (yi y D.size) (fun e=>?_)).trans (D.block k y);obtain⟨cur,O⟩:=qac h.ends k e.symm;exact qae I O J rfl
theorem EnAt.ahead{N:List zT}(h:EnAt w B g S N pv RL vp ve E)(z:zW w w1)(y:w1.grownBy w' ve.ownBlock):w'.cell? (zO g 2)=some ve/\w'.frozen? (zO g 2)=false:=by
 have D:=(h.apart z y h.tp.blk (by decide)).trans h.tp.blk;exact⟨qaa D 2 _ rfl,xH _ _ 2 _ _ D⟩
theorem Enm.more(h:Enm K w0 wr W vW p' ve E')(Z:K.B<=w0.heap.size)(hb:zW wr w1)(e:Et)(J:w'.ownsRow K.B 201 17 ve' (E'.length+1) (qh7 E'++qe6 e))(O:w1.grownBy w' ve.ownBlock)(T:ve'.ownBlock=ve.ownBlock\/ve'.ownBlock=some w1.heap.size) :
  Enm K w0 (w'.setCell (zO K.g 2) ve') W vW p' ve' (E'++[e])/\∀(k:Nat) (cs:Array Value) (fz:Nat×Nat),wr.heap[k]?=some (.cells cs 94 fz)->(w'.setCell (zO K.g 2) ve').heap[k]?=wr.heap[k]?:=by
 have hg:=(h.at_.apart hb O h.at_.tp.blk (by decide)).trans h.at_.tp.blk;have V:=(zL h.at_.tp.blk);have X:=hb.size;have Y:=h.lt;have U:ve'.ownBlock≠some K.g:=by
  intro q;rcases T with z|z
  ·rw[q]at z
   obtain⟨cur,hc⟩:=qac h.at_.ends K.g z.symm;exact qae h.at_.tp.blk hc (by decide) rfl
  ·rw[q]at z
   injection z with z;omega
 have I:∀k,k≠K.g->(w'.setCell (zO K.g 2) ve').heap[k]?=w'.heap[k]?:=fun k hk=>xK _ _ _ _ hk;have y:∀(k:Nat) (cs:Array Value) (t:TypeId) (fz:Nat×Nat),wr.heap[k]?=some (.cells cs t fz)->t≠201->t≠101->(w'.setCell (zO K.g 2) ve').heap[k]?=wr.heap[k]?:=fun k cs t fz hk h1 h2=>(I k (qae hk h.at_.tp.blk h2)).trans (h.at_.apart hb O hk h1);have D:∀(t:TypeId) (sz n:Nat) (v:Value) (xs:List Value),wr.ownsRow K.B t sz v n xs->t≠201->t≠101->(w'.setCell (zO K.g 2) ve').ownsRow K.B t sz v n xs:=fun t sz n v xs hv h1 h2=>qab hv fun k hk=>by
  obtain⟨cur,hc⟩:=qac hv k hk;exact y _ _ _ _ hc h1 h2
 refine⟨⟨(y _ _ _ _ h.spot (by decide) (by decide)).trans h.spot,(y _ _ _ _ h.res (by decide) (by decide)).trans h.res,⟨⟨xG w' K.g 2 _ _ _ hg,h.at_.tp.le,D _ _ _ _ _ h.at_.tp.parts (by decide) (by decide),fun i s hs=>⟨D _ _ _ _ _ (h.at_.tp.row i s hs).1 (by decide) (by decide),(h.at_.tp.row i s hs).2⟩⟩,?_⟩,D _ _ _ _ _ h.wi (by decide) (by decide),?_,fun k cs t fz hk h1 h2=>?_⟩,fun k cs fz hk=>y _ _ _ _ hk (by decide) (by decide)⟩
 ·rw[yJ,qye]
  exact qab J fun k hk=>I k (fun e=>U (by rw[<-e];exact hk))
 ·exact((h.ck.below.trans (hb.mono (by omega))).grown O (by omega) (fun q hq=>(World.ownsRow.lt h.at_.ends q hq).1)).setCell h.at_.tp.le _
 ·have:=h.ck.keep k cs t fz hk h1 h2
  exact(y k cs t fz (this.trans hk) h1 h2).trans this
theorem zdb{B:Nat->List It}{R:List Vt}{r:Nat}{n:Nat}{x:Sx}{e:Et}(h:EInv B R r E (W++[(n,x)]))(y:EtOk B R r e)(z:(e.n,e.x)=(n,x)):EInv B R r (E++[e]) W:=by
 refine⟨fun u D=>(yn.1 D).elim (h.each u) fun q=>yv.1 q▸y,?_,fun u D=>h.wins u (List.mem_append_left _ D)⟩;rw[yG,yq,show [e].map (fun e=>(e.n,e.x))=[(n,x)]from by rw[List.map_singleton,z]];exact(List.Perm.append_left _ List.perm_append_comm).nodup_iff.1 h.apart
theorem zcs:(prog.info? 201).map (fun i=>(i.zero,i.size,i.bytes))=some (some (.agg #[zI 0,zI 0,zI 0,zI 0,zI 0,zI 0,zI 0,zI 0,zS,.bool false,zI 0,zS,zS,zS,zS,zI 0,.bool false]),17,176):=by kernel_rfl
end Go.Proofs.YtfkhljmiehdgmaaGreatDoor
