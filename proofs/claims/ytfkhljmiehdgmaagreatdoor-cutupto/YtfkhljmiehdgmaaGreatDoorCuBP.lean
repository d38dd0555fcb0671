/-
  Steps of the proof.
-/
import Derived.Test.YtfkhljmiehdgmaaGreatDoorCuBO
import Derived.Test.YtfkhljmiehdgmaaGreatDoorCuBN
set_option maxRecDepth 100000
set_option maxHeartbeats 40000000
namespace Go.Proofs.YtfkhljmiehdgmaaGreatDoor
open Go.RowKit Go.Proofs.Tryz Pl
section
open Go.Maps
theorem zev(y:qhp)(S:List Src)(z:SrcsOk S):∀k,ThrC S k:=by
 intro k
 induction k with
 |zero=>
   intro w B F vv M s e h D I J;have:=D.inv.few;have:=D.inv.ends.few;omega
 |succ k ih=>exact zeu y S z k ih
namespace Pl
theorem qq0{n:zU}(h:qa4 n=true):n.length<=8:=by
 unfold qa4 at h;simp only[yL,yN]at h;exact h.2.1
theorem qn0:∀(Z:List (zU×zU)),(qa5 Z).1.code=0->(qa5 Z).2=(Z.map fun z=>⟨z.1,(qam z.2).2⟩)/\∀(i:Nat) z,Z[i]?=some z->(qam z.2).1.1=0
 |[],_=>⟨rfl,fun i z h=>by simp at h⟩
 |(n,t)::l,h=>by
   unfold qa5 at h |-;by_cases y:(qam t).1.1=0
   ·rw[if_neg (fun q=>q y)]at h |-
    by_cases D:(qa5 l).1.code=0
    ·rw[if_neg (fun q=>q D)]at h |-
     obtain⟨k1,k2⟩:=qn0 l D;refine⟨by rw[k1];rfl,fun i z I=>?_⟩;cases i with
     |zero=>simp at I;subst I;exact y
     |succ i=>exact k2 i z (by simpa using I)
    ·rw[if_pos D]at h;exact absurd h D
   ·rw[if_pos y]at h;cases h
end Pl
theorem q0d(t:zU)(P:List (zU×zU))(T:P.length<=6)(U:qhn (P.map (·.1))=true)(V:(Pl.qa5 (([],t)::P)).1.code=0):SrcsOk (Pl.qa5 (([],t)::P)).2:=by
 obtain⟨X,Y⟩:=Pl.qn0 _ V;rw[X];have I:∀(i:Nat) (a:Src),((([],t)::P).map fun z=>(⟨z.1,(Pl.qam z.2).2⟩:Src))[i]?=some a->∃z,(([],t)::P)[i]?=some z/\a=⟨z.1,(Pl.qam z.2).2⟩:=fun i a h=>by
  rw[yz]at h;obtain⟨z,e1,e2⟩:=yy.1 h;exact⟨z,e1,e2.symm⟩
 have J:∀(i:Nat) (z:zU×zU),(([],t)::P)[i+1]?=some z->(P.map (·.1))[i]?=some z.1:=fun i z h=>by
  rw[yT]at h;rw[yz,h];rfl
 have D:=(Pl.qfi _).1 U;refine⟨by simp;omega,fun i j a b Z hj h3 h4 he=>?_,fun i a h3=>?_,fun i a h3=>?_,fun i a h3=>?_⟩
 ·obtain⟨i,rfl⟩:∃k,i=k+1:=⟨i - 1,by omega⟩
  obtain⟨j,rfl⟩:∃k,j=k+1:=⟨j - 1,by omega⟩;obtain⟨z,e1,rfl⟩:=I _ _ h3;obtain⟨y,e2,rfl⟩:=I _ _ h4;have he:z.1=y.1:=he;have n1:=J i z e1;have n2:=J j y e2;rcases Nat.lt_trichotomy i j with q|q|q
  ·exact absurd (he▸n1) ((D j y.1 n2).2 i q)
  ·omega
  ·exact absurd (he▸n2) ((D i z.1 n1).2 j q)
 ·obtain⟨z,e1,rfl⟩:=I _ _ h3
  show z.1.length<=_;cases i with
  |zero=>simp at e1;subst e1;simp
  |succ i=>have:=Pl.qq0 (D i z.1 (J i z e1)).1;omega
 ·obtain⟨z,e1,rfl⟩:=I _ _ h3
  have hz:=Y i z e1;have hb:=zdg z.2 hz;have hk:=qrh z.2 hz;have O:=q99 z.2;refine⟨yh hk.2 hb.1,fun p hp=>⟨yh (hb.2 p hp).text hb.1,yh (O.2 p hp).pos hb.1,yh (hb.2 p hp).mate hb.1⟩⟩
 ·obtain⟨z,e1,rfl⟩:=I _ _ h3
  exact(qrh z.2 (Y i z e1)).1
variable{w wr w':World}{P R:Nat}
theorem qhw{P:Program}{fn:Func}{R:Ending->World->Prop}{a:Act}{p q:Tmp}{tp tq:TypeId}(h:fn.results=#[.cell p tp,.cell q tq])(y:a.defers=[])(g1 g2:Nat)(c1 c2:Array Value)(Z:a.tmps.getD p undef=zP g1)(hq:a.tmps.getD q undef=zP g2)
  (z:w.heap[g1]?=zK c1 tp) (D:w.heap[g2]?=zK c2 tq) (d1 d2:TypeDesc) (I:P.underlying tp=some d1) (J:P.underlying tq=some d2) (O:aggD d1=true) (T:aggD d2=true) (U:(P.info? tp).map (·.size)=some c1.size) (V:(P.info? tq).map (·.size)=some c2.size) (hR:R (.returned (.tuple #[.agg c1,.agg c2])) w):bodyPost P fn R .ret a w:=by
 refine bodyPost_ret ?_ y hR;have X:=qbb (P:=P) w g1 tp c1 d1 (qaa z) I (by cases d1<;>first|rfl|cases O) U
 have Y:=qbb (P:=P) w g2 tq c2 d2 (qaa D) J (by cases d2<;>first|rfl|cases T) V
 rw[yY]at Z hq;simp only[results,h];simp[Z,hq,asAddr,X,Y]
def qck(L:List (zT×zT)):Bool:=decide (L.length<=6) && qhn (qbq L)
theorem qlv(L:List (zT×zT)):(qau L).map (·.1)=qbq L:=by
 unfold qau qbq;rw[List.map_map];rfl
theorem ql5(v:Value)(L:List (zT×zT))(w:World)(y:qk5 w v L):zC 43 #[v] w (zR (.bool (qck L)) w):=by
 obtain⟨ao,cap,rfl,z,D,I⟩:=y;unfold qck;by_cases J:L.length<=6
 ·rw[yV J,Bool.true_and]
  by_cases O:L=[]
  ·subst O
   refine cm (qzh ao cap w) ?_;exact⟨rfl,xL _ _⟩
  ·obtain⟨b,o,rfl,T⟩:=I O
   refine(qzg b o cap L w T J).mono ?_;rintro e w' ⟨rfl,m,rfl⟩;exact⟨rfl,qat (xL _ _) m⟩
 ·rw[yx J,Bool.false_and]
  refine cm (qzi ao L.length cap w (by omega)) ?_;exact⟨rfl,xL _ _⟩
structure Mki(w wr:World)(P R:Nat):Prop where
 pl:wr.heap[P]?=zK #[zN] 77
 ft:wr.heap[R]?=zK #[zI 0,zI 0,zS,zI 0] 31
 below:zW w wr
 le:w.heap.size<=P/\w.heap.size<=R
 ne:P≠R
theorem Mki.next(h:Mki w wr P R)(y:zW wr w'):Mki w w' P R:=
 ⟨(y.block _ (ya.1 h.pl).1).trans h.pl,(y.block _ (ya.1 h.ft).1).trans h.ft,h.below.trans (y.mono h.below.size),h.le,h.ne⟩
theorem Mki.keeps{B:Nat}(h:Mki w wr P R)(y:zdu wr w')(z:Below B wr w')(D:w.heap.size<=B):Mki w w' P R:=
 ⟨(y _ _ _ _ h.pl (by decide) (by decide)).trans h.pl,(y _ _ _ _ h.ft (by decide) (by decide)).trans h.ft,h.below.trans (z.mono D),h.le,h.ne⟩
theorem Mki.start(w:World):Mki w ((w.alloc (.cells #[zN] 77)).alloc (.cells #[zI 0,zI 0,zS,zI 0] 31)) w.heap.size (w.heap.size+1):=
 ⟨(xI _ _ (by simp)).trans (xF _ _),qap _ _ _ (by simp),(zB _).alloc (by simp) _,⟨yg _,by omega⟩,by omega⟩
theorem Mki.set(h:Mki w wr P R)(u v0 v1 v2 v3:Value) :
  (((((wr.setCell (zO P 0) u).setCell (zO R 0) v0).setCell (zO R 1) v1).setCell (zO R 2) v2).setCell (zO R 3) v3).heap[P]?=zK #[u] 77 /\
  (((((wr.setCell (zO P 0) u).setCell (zO R 0) v0).setCell (zO R 1) v1).setCell (zO R 2) v2).setCell (zO R 3) v3).heap[R]?=zK #[v0,v1,v2,v3] 31 /\
  zW w (((((wr.setCell (zO P 0) u).setCell (zO R 0) v0).setCell (zO R 1) v1).setCell (zO R 2) v2).setCell (zO R 3) v3):=by
 have y:(wr.setCell (zO P 0) u).heap[P]?=zK #[u] 77:=xG _ _ _ _ _ _ h.pl;have z:(wr.setCell (zO P 0) u).heap[R]?=_:=(xK _ _ _ _ h.ne.symm).trans h.ft;refine⟨?_,qhg z _ _ _ _,?_⟩
 ·exact(xK _ _ _ _ h.ne).trans ((xK _ _ _ _ h.ne).trans ((xK _ _ _ _ h.ne).trans ((xK _ _ _ _ h.ne).trans y)))
 ·exact((((h.below.setCell (p:=zO P 0) h.le.1 u).setCell (p:=zO R 0) h.le.2 v0).setCell (p:=zO R 1) h.le.2 v1).setCell (p:=zO R 2) h.le.2 v2).setCell (p:=zO R 3) h.le.2 v3
theorem Mki.sv(h:Mki w wr P R){B:Nat}{F:Fix}{S:List Src}{vv:Value}{M:List Nat}{s:Sr}(y:SvAt wr B F S vv M s)(u v0 v1 v2 v3:Value) :
  SvAt (((((wr.setCell (zO P 0) u).setCell (zO R 0) v0).setCell (zO R 1) v1).setCell (zO R 2) v2).setCell (zO R 3) v3) B F S vv M s:=
 (y.other h.pl (by decide) (by decide) (by decide) (by decide) (by decide) 0 u).fault4 ((xK _ _ _ _ h.ne.symm).trans h.ft) v0 v1 v2 v3
theorem Mki.beside(h:Mki w wr P R){E:Nat}(y:w.heap.size<=E)(z:P≠E)(D:R≠E)(v0 v1 v2 v3:Value):Mki w ((((wr.setCell (zO E 0) v0).setCell (zO E 1) v1).setCell (zO E 2) v2).setCell (zO E 3) v3) P R:=
 have e:∀q,q≠E->((((wr.setCell (zO E 0) v0).setCell (zO E 1) v1).setCell (zO E 2) v2).setCell (zO E 3) v3).heap[q]?=wr.heap[q]?:=fun _ I=>(xK _ _ _ _ I).trans ((xK _ _ _ _ I).trans ((xK _ _ _ _ I).trans (xK _ _ _ _ I)))
 ⟨(e _ z).trans h.pl,(e _ D).trans h.ft,(((h.below.setCell (p:=zO E 0) y v0).setCell (p:=zO E 1) y v1).setCell (p:=zO E 2) y v2).setCell (p:=zO E 3) y v3,h.le,h.ne⟩
theorem Mki.cells(h:Mki w wr P R):wr.cell? (zO P 0)=some (zN)/\wr.frozen? (zO P 0)=false/\wr.cell? (zO R 0)=some (zI 0)/\wr.cell? (zO R 1)=some (zI 0)/\wr.cell? (zO R 2)=some (zS)/\wr.cell? (zO R 3)=some (zI 0)/\wr.frozen? (zO R 0)=false/\wr.frozen? (zO R 1)=false/\wr.frozen? (zO R 2)=false/\wr.frozen? (zO R 3)=false:=
 ⟨qaa h.pl 0 _ rfl,by simp[World.frozen?,h.pl],qaa h.ft 0 _ rfl,qaa h.ft 1 _ rfl,qaa h.ft 2 _ rfl,qaa h.ft 3 _ rfl,by simp[World.frozen?,h.ft],by simp[World.frozen?,h.ft],by simp[World.frozen?,h.ft],by simp[World.frozen?,h.ft]⟩
theorem qxg(T:zT)(v:Value)(L:List (zT×zT))(w:World)(y:qk5 w v L)(z:qck L=false) :
  zC 29 #[.string T,v] w (zR (.tuple #[.agg #[zN],.agg #[zI 1,zI 0,zS,zI 0]]) w):=by
 have D:=fun w1 (I:zW w w1)=>ql5 v L w1 (y.kept I);rw[z]at D;have J:=zH D;clear D z y;go_enter func29,ntmps29
 go_wp2_with fail
 refine(J.out _ (Mki.start w).below).mono ?_;rintro ed w1 ⟨rfl,I⟩;have O:=(show Hid _ from(Mki.start w).next I);obtain⟨p0,q0,x0,x1,x2,x3,y0,y1,y2,y3⟩:=O.out.cells;clear I;go_wp2_with fail
 have U:=O.out.set (zN) (zI 1) (zI 0) (zS) (zI 0);refine qhw results29 rfl w.heap.size (w.heap.size+1) _ _ rfl rfl U.1 U.2.1 _ _ underlying77 underlying31 rfl rfl (by kernel_rfl) (by kernel_rfl) ?_;exact⟨rfl,U.2.2⟩
end
variable{w w' w1:World}{B g:Nat}{S:List Src}{pv:Nat->Value}{RL:Nat->List Rm}{vp ve:Value}
def qfl(pv:Nat->Value):Nat->List zT->List Value
 |_,[]=>[]
 |i,n::l=>.string n::pv i::qfl pv (i+1) l
theorem qir(pv:Nat->Value):∀(l:List zT) (i:Nat),(qfl pv i l).length=l.length*2
 |[],_=>rfl
 |n::l,i=>by show(qfl pv (i+1) l).length+2=_;rw[qir pv l (i+1),yK];omega
theorem qoa(pv:Nat->Value):∀(l:List zT) (i:Nat) (n:zT),qfl pv i (l++[n])=qfl pv i l++[.string n,pv (i+l.length)]
 |[],i,n=>rfl
 |m::l,i,n=>by
   show Value.string m::pv i::qfl pv (i+1) (l++[n])=_;rw[qoa pv l (i+1) n,show i+1+l.length=i+(m::l).length by simp;omega];rfl
theorem qki(pv:Nat->Value):∀(l:List zT) (i k:Nat) (n:zT),l[k]?=some n->(qfl pv i l)[k*2]?=some (.string n)/\(qfl pv i l)[k*2+1]?=some (pv (i+k))
 |[],i,k,n,h=>by simp at h
 |m::l,i,0,n,h=>by
   simp only[yS,Option.some.injEq]at h;subst h;exact⟨rfl,rfl⟩
 |m::l,i,k+1,n,h=>by
   have:=qki pv l (i+1) k n (by simpa using h);rw[show i+1+k=i+(k+1) by omega]at this;rw[show(k+1)*2=k*2+2 by omega];exact this
theorem qob{pv pv':Nat->Value}:∀(l:List zT) (i:Nat),(∀j,j<l.length->pv (i+j)=pv' (i+j))->qfl pv i l=qfl pv' i l
 |[],_,_=>rfl
 |m::l,i,h=>by
   have y:pv i=pv' i:=h 0 (by simp);have z:=qob (pv:=pv) (pv':=pv') l (i+1) (fun j D=>by
    have:=h (j+1) (by rw[yK];omega)
    rwa [show i+(j+1)=i+1+j by omega]at this)
   show Value.string m::pv i::qfl pv (i+1) l=Value.string m::pv' i::qfl pv' (i+1) l;rw[y,z]
structure TpAt(w:World)(B g:Nat)(S:List Src)(N:List zT)(pv:Nat->Value)(RL:Nat->List Rm)(vp ve:Value):Prop where
 blk:w.heap[g]?=zK #[pv 0,vp,ve] 101
 le:B<=g
 parts:w.ownsRow B 134 2 vp N.length (qfl pv 1 N)
 row:∀i s,S[i]?=some s->w.ownsRow B 136 6 (pv i) (RL i).length (qd8 (RL i))/\RmsOf (RL i) s.parts
theorem TpAt.same{N:List zT}(h:TpAt w B g S N pv RL vp ve)(y:w'.heap[g]?=w.heap[g]?)(z:∀k,vp.ownBlock=some k->w'.heap[k]?=w.heap[k]?)(D:∀i s k,S[i]?=some s->(pv i).ownBlock=some k->w'.heap[k]?=w.heap[k]?):TpAt w' B g S N pv RL vp ve:=
 ⟨y.trans h.blk,h.le,qab h.parts z,fun i s I=>⟨qab (h.row i s I).1 fun k J=>D i s k I J,(h.row i s I).2⟩⟩
theorem TpAt.kept{N:List zT}(h:TpAt w B g S N pv RL vp ve)(y:zW w w'):TpAt w' B g S N pv RL vp ve:=
 h.same (y.block _ (zL h.blk)) (fun k z=>y.block k (h.parts.lt k z).2) fun i s k D z=>y.block k ((h.row i s D).1.lt k z).2
theorem TpAt.drew{N:List zT}(h:TpAt w B g S N pv RL vp ve):TpAt w.drew B g S N pv RL vp ve:=h.same rfl (fun _ _=>rfl) fun _ _ _ _ _=>rfl
theorem qlh:(101:TypeId)≠134:=by decide
theorem qwe:(101:TypeId)≠136:=by decide
theorem qub:(134:TypeId)≠136:=by decide
theorem TpAt.apart{N:List zT}(h:TpAt w B g S N pv RL vp ve)(D:zW w w1)(z:w1.grownBy w' vp.ownBlock){k:Nat}{cs:Array Value}{t:TypeId}{fz:Nat×Nat}(I:w.heap[k]?=some (.cells cs t fz))(J:t≠134):w'.heap[k]?=w.heap[k]?:=by
 have y:=(ya.1 I).1;refine(z.block k (yi y D.size) (fun e=>?_)).trans (D.block k y);obtain⟨cur,O⟩:=qac h.parts k e.symm;exact qae I O J rfl
theorem TpAt.ahead{N:List zT}(h:TpAt w B g S N pv RL vp ve)(z:zW w w1)(y:w1.grownBy w' vp.ownBlock):w'.cell? (zO g 1)=some vp/\w'.frozen? (zO g 1)=false:=by
 have D:=(h.apart z y h.blk qlh).trans h.blk;exact⟨qaa D 1 _ rfl,xH _ _ 1 _ _ D⟩
theorem TpAt.more{N:List zT}{vp':Value}(h:TpAt w B g S N pv RL vp ve)(D:S.length=N.length+1)(T:zW w w1){n:zT}{u:Value}{R:List Rm}{s:Src}(U:w.ownsRow B 136 6 u R.length (qd8 R))(V:RmsOf R s.parts)(z:w'.ownsRow B 134 2 vp' (N.length+1) (qfl pv 1 N++[.string n,u]))(I:w1.grownBy w' vp.ownBlock)(O:vp'.ownBlock≠some g) :
  TpAt (w'.setCell (zO g 1) vp') B g (S++[s]) (N++[n]) (fun i=>if i=N.length+1 then u else pv i) (fun i=>if i=N.length+1 then R else RL i) vp' ve:=by
 have X:=(h.apart T I h.blk qlh).trans h.blk;have y:∀k,k≠g->(w'.setCell (zO g 1) vp').heap[k]?=w'.heap[k]?:=fun k Y=>xK _ _ _ _ Y;have J:∀(v:Value) (m:Nat) (xs:List Value),w.ownsRow B 136 6 v m xs->(w'.setCell (zO g 1) vp').ownsRow B 136 6 v m xs:=fun v m xs Z=>qab Z fun k Y=>by
  obtain⟨cur,hc⟩:=qac Z k Y;exact(y k (fun e=>qae h.blk hc qwe e.symm)).trans (h.apart T I hc qub.symm)
 refine⟨?_,h.le,?_,fun i s' hs=>?_⟩
 ·rw[show (if 0=N.length+1 then u else pv 0)=pv 0 from if_neg (by omega)]
  exact xG w' g 1 _ _ _ X
 ·rw[yJ,qoa,qob (pv':=pv) N 1 (fun j hj=>if_neg (by omega)),if_pos (by omega)]
  exact qab z fun k Y=>y k (fun e=>O (by rw[<-e];exact Y))
 ·by_cases q:i<S.length
  ·rw[yr q]at hs
   rw[if_neg (by omega),if_neg (by omega)];exact⟨J _ _ _ (h.row i s' hs).1,(h.row i s' hs).2⟩
  ·have h1:=(yb.1 hs).1
   rw[yJ]at h1;simp only[yK,yQ]at h1;have e:i=S.length:=by omega
   subst e;rw[yt (yg _),xz]at hs;simp at hs;subst hs;rw[if_pos D,if_pos D];exact⟨J _ _ _ U,V⟩
def tkF(T:zT)(L:List (zT×zT)):Ft×List Src:=if qck L=false then(⟨1,0,[],0⟩,[])else qa5 (([],T.data.toList)::qau L)
def qt1(w:World)(T:zT)(L:List (zT×zT))(e:Ending)(w':World):Prop:=
 (∃p,e=.returned (.tuple #[p,qnt (tkF T L).1])/\((tkF T L).1.code=0->∃g pv RL vp,p=zP g/\TpAt w' w.heap.size g (tkF T L).2 (L.map (·.1)) pv RL vp (zN)))/\zW w w'
def qq8:Array Value:=#[zI 0,zI 0,zS,zI 0]
def set4(w:World)(g:Nat)(v0 v1 v2 v3:Value):World:=(((w.setCell (zO g 0) v0).setCell (zO g 1) v1).setCell (zO g 2) v2).setCell (zO g 3) v3
theorem qj1{t:TypeId}(h:w.heap[g]?=zK qq8 t)(v0 v1 v2 v3:Value):(set4 w g v0 v1 v2 v3).heap[g]?=zK #[v0,v1,v2,v3] t:=by
 have y:=xG w g 0 _ _ v0 h;have z:=xG _ g 1 _ _ v1 y;have D:=xG _ g 2 _ _ v2 z;exact xG _ g 3 _ _ v3 D
theorem qim{a:World}(h:Below B a w)(y:B<=g)(v0 v1 v2 v3:Value):Below B a (set4 w g v0 v1 v2 v3):=
 (((h.setCell (p:=zO g 0) y v0).setCell (p:=zO g 1) y v1).setCell (p:=zO g 2) y v2).setCell (p:=zO g 3) y v3
theorem zcr:(prog.info? 31).map (·.size)=some 4:=by kernel_rfl
theorem q39{X:World}{T:zT}{L:List (zT×zT)}{a:Act}{f:Ft}{p:Value}(z:X.heap[w.heap.size]?=zK #[zI f.code,zI f.kind,bs f.place,zI f.pos] 31)(D:zW w X)(I:(tkF T L).1=f)
  (J:a.tmps.getD 5 undef=zP w.heap.size) (O:a.tmps.getD 4 undef=p) (y:a.defers=[]) (U:f.code=0->∃g pv RL vp,p=zP g/\TpAt X w.heap.size g (tkF T L).2 (L.map (·.1)) pv RL vp (zN)) :
  bodyPost prog f32 (qt1 w T L) .ret a X:=by
 refine bodyPost_ret (qe4 (cs:=#[zI f.code,zI f.kind,bs f.place,zI f.pos]) results32 a.tmps _ w.heap.size _ J (qaa z) underlying31 rfl zcr) y ?_;rw[O];exact⟨⟨p,by rw[I];rfl,fun h=>U (by rw[<-I];exact h)⟩,D⟩
def tkZ(T:zT)(L:List (zT×zT)):List (zU×zU):=([],T.data.toList)::qau L
def tkS(Z:List (zU×zU)):List Src:=Z.map fun z=>⟨z.1,(qam z.2).2⟩
structure TkAt(w wr:World)(T:zT)(L:List (zT×zT))(g k:Nat)(pv:Nat->Value)(RL:Nat->List Rm)(vp:Value):Prop where
 res:wr.heap[w.heap.size]?=zK qq8 31
 tp:TpAt wr w.heap.size g (tkS ((tkZ T L).take (k+1))) ((L.map (·.1)).take k) pv RL vp (zN)
 below:zW w wr
 fine:∀i z,i<k+1->(tkZ T L)[i]?=some z->(qam z.2).1.1=0
theorem qol{B' n k:Nat}{e:TypeId}{v:Value}{xs:List Value}(h:w.ownsRow B e k v n xs)(y:B'<=B):w.ownsRow B' e k v n xs:=by
 refine⟨h.1,h.2.imp id ?_⟩;rintro⟨g,cap,cur,z,D,I⟩;exact⟨g,cap,cur,z,yh y D,I⟩
theorem q1x:(Value.agg #[zS,zN]).cells.size=2:=rfl
theorem q50:(prog.info? 134).map (fun i=>(i.zero,i.size,i.bytes))=some (some (.agg #[zS,zN]),2,40):=by kernel_rfl
end Go.Proofs.YtfkhljmiehdgmaaGreatDoor
