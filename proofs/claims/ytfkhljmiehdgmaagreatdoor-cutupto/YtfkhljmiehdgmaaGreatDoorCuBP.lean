/-
  Steps of the proof.
-/
import Derived.Test.YtfkhljmiehdgmaaGreatDoorCuBO
import Derived.Test.YtfkhljmiehdgmaaGreatDoorCuBN
set_option maxRecDepth 100000
set_option maxHeartbeats 40000000
namespace Go.Proofs.YtfkhljmiehdgmaaGreatDoor
open Go.RowKit Go.Proofs.Tryz Pl
section
open Go.Maps
theorem zev(HB:qhp)(S:List Src)(hS:SrcsOk S):∀k,ThrC S k:=by
 intro k
 induction k with
 |zero=>
   intro w B F vv M s e h hp hk ht;have:=hp.inv.few;have:=hp.inv.ends.few;omega
 |succ k ih=>exact zeu HB S hS k ih
namespace Pl
theorem qq0{n:zU}(h:qa4 n=true):n.length<=8:=by
 unfold qa4 at h;simp only[yL,yN]at h;exact h.2.1
theorem qn0:∀(Z:List (zU×zU)),(qa5 Z).1.code=0->(qa5 Z).2=(Z.map fun z=>⟨z.1,(qam z.2).2⟩)/\∀(i:Nat) z,Z[i]?=some z->(qam z.2).1.1=0
 |[],_=>⟨rfl,fun i z h=>by simp at h⟩
 |(n,t)::l,h=>by
   unfold qa5 at h |-;by_cases h0:(qam t).1.1=0
   ·rw[if_neg (fun q=>q h0)]at h |-
    by_cases h1:(qa5 l).1.code=0
    ·rw[if_neg (fun q=>q h1)]at h |-
     obtain⟨k1,k2⟩:=qn0 l h1;refine⟨by rw[k1];rfl,fun i z hz=>?_⟩;cases i with
     |zero=>simp at hz;subst hz;exact h0
     |succ i=>exact k2 i z (by simpa using hz)
    ·rw[if_pos h1]at h;exact absurd h h1
   ·rw[if_pos h0]at h;cases h
end Pl
theorem q0d(t:zU)(P:List (zU×zU))(h6:P.length<=6)(ha:qhn (P.map (·.1))=true)(hc:(Pl.qa5 (([],t)::P)).1.code=0):SrcsOk (Pl.qa5 (([],t)::P)).2:=by
 obtain⟨h1,h2⟩:=Pl.qn0 _ hc;rw[h1];have Hb:∀(i:Nat) (a:Src),((([],t)::P).map fun z=>(⟨z.1,(Pl.qam z.2).2⟩:Src))[i]?=some a->∃z,(([],t)::P)[i]?=some z/\a=⟨z.1,(Pl.qam z.2).2⟩:=fun i a h=>by
  rw[yz]at h;obtain⟨z,e1,e2⟩:=yy.1 h;exact⟨z,e1,e2.symm⟩
 have Hc:∀(i:Nat) (z:zU×zU),(([],t)::P)[i+1]?=some z->(P.map (·.1))[i]?=some z.1:=fun i z h=>by
  rw[yT]at h;rw[yz,h];rfl
 have Ha:=(Pl.qfi _).1 ha;refine⟨by simp;omega,fun i j a b hi hj h3 h4 he=>?_,fun i a h3=>?_,fun i a h3=>?_,fun i a h3=>?_⟩
 ·obtain⟨i,rfl⟩:∃k,i=k+1:=⟨i - 1,by omega⟩
  obtain⟨j,rfl⟩:∃k,j=k+1:=⟨j - 1,by omega⟩;obtain⟨z,e1,rfl⟩:=Hb _ _ h3;obtain⟨y,e2,rfl⟩:=Hb _ _ h4;have he:z.1=y.1:=he;have n1:=Hc i z e1;have n2:=Hc j y e2;rcases Nat.lt_trichotomy i j with q|q|q
  ·exact absurd (he▸n1) ((Ha j y.1 n2).2 i q)
  ·omega
  ·exact absurd (he▸n2) ((Ha i z.1 n1).2 j q)
 ·obtain⟨z,e1,rfl⟩:=Hb _ _ h3
  show z.1.length<=_;cases i with
  |zero=>simp at e1;subst e1;simp
  |succ i=>have:=Pl.qq0 (Ha i z.1 (Hc i z e1)).1;omega
 ·obtain⟨z,e1,rfl⟩:=Hb _ _ h3
  have hz:=h2 i z e1;have hb:=zdg z.2 hz;have hk:=qrh z.2 hz;have He:=q99 z.2;refine⟨yh hk.2 hb.1,fun p hp=>⟨yh (hb.2 p hp).text hb.1,yh (He.2 p hp).pos hb.1,yh (hb.2 p hp).mate hb.1⟩⟩
 ·obtain⟨z,e1,rfl⟩:=Hb _ _ h3
  exact(qrh z.2 (h2 i z e1)).1
variable{w wr w':World}{P R:Nat}
theorem qhw{P:Program}{fn:Func}{R:Ending->World->Prop}{a:Act}{p q:Tmp}{tp tq:TypeId}(h:fn.results=#[.cell p tp,.cell q tq])(ha:a.defers=[])(g1 g2:Nat)(c1 c2:Array Value)(hp:a.tmps.getD p undef=zP g1)(hq:a.tmps.getD q undef=zP g2)
  (Ha:w.heap[g1]?=zK c1 tp) (hb:w.heap[g2]?=zK c2 tq) (d1 d2:TypeDesc) (Hb:P.underlying tp=some d1) (hc:P.underlying tq=some d2) (Hc:aggD d1=true) (he:aggD d2=true) (He:(P.info? tp).map (·.size)=some c1.size) (hf:(P.info? tq).map (·.size)=some c2.size) (hR:R (.returned (.tuple #[.agg c1,.agg c2])) w):bodyPost P fn R .ret a w:=by
 refine bodyPost_ret ?_ ha hR;have Hf:=qbb (P:=P) w g1 tp c1 d1 (qaa Ha) Hb (by cases d1<;>first|rfl|cases Hc) He
 have hg:=qbb (P:=P) w g2 tq c2 d2 (qaa hb) hc (by cases d2<;>first|rfl|cases he) hf
 rw[yY]at hp hq;simp only[results,h];simp[hp,hq,asAddr,Hf,hg]
def qck(L:List (zT×zT)):Bool:=decide (L.length<=6) && qhn (qbq L)
theorem qlv(L:List (zT×zT)):(qau L).map (·.1)=qbq L:=by
 unfold qau qbq;rw[List.map_map];rfl
theorem ql5(v:Value)(L:List (zT×zT))(w:World)(hA:qk5 w v L):zC 43 #[v] w (zR (.bool (qck L)) w):=by
 obtain⟨ao,cap,rfl,h1,h2,h3⟩:=hA;unfold qck;by_cases h6:L.length<=6
 ·rw[yV h6,Bool.true_and]
  by_cases hn:L=[]
  ·subst hn
   refine cm (qzh ao cap w) ?_;exact⟨rfl,xL _ _⟩
  ·obtain⟨b,o,rfl,hp⟩:=h3 hn
   refine(qzg b o cap L w hp h6).mono ?_;rintro e w' ⟨rfl,m,rfl⟩;exact⟨rfl,qat (xL _ _) m⟩
 ·rw[yx h6,Bool.false_and]
  refine cm (qzi ao L.length cap w (by omega)) ?_;exact⟨rfl,xL _ _⟩
structure Mki(w wr:World)(P R:Nat):Prop where
 pl:wr.heap[P]?=zK #[zN] 77
 ft:wr.heap[R]?=zK #[zI 0,zI 0,zS,zI 0] 31
 below:zW w wr
 le:w.heap.size<=P/\w.heap.size<=R
 ne:P≠R
theorem Mki.next(h:Mki w wr P R)(hb:zW wr w'):Mki w w' P R:=
 ⟨(hb.block _ (ya.1 h.pl).1).trans h.pl,(hb.block _ (ya.1 h.ft).1).trans h.ft,h.below.trans (hb.mono h.below.size),h.le,h.ne⟩
theorem Mki.keeps{B:Nat}(h:Mki w wr P R)(hk:zdu wr w')(hb:Below B wr w')(hB:w.heap.size<=B):Mki w w' P R:=
 ⟨(hk _ _ _ _ h.pl (by decide) (by decide)).trans h.pl,(hk _ _ _ _ h.ft (by decide) (by decide)).trans h.ft,h.below.trans (hb.mono hB),h.le,h.ne⟩
theorem Mki.start(w:World):Mki w ((w.alloc (.cells #[zN] 77)).alloc (.cells #[zI 0,zI 0,zS,zI 0] 31)) w.heap.size (w.heap.size+1):=
 ⟨(xI _ _ (by simp)).trans (xF _ _),qap _ _ _ (by simp),(zB _).alloc (by simp) _,⟨yg _,by omega⟩,by omega⟩
theorem Mki.set(h:Mki w wr P R)(u v0 v1 v2 v3:Value) :
  (((((wr.setCell (zO P 0) u).setCell (zO R 0) v0).setCell (zO R 1) v1).setCell (zO R 2) v2).setCell (zO R 3) v3).heap[P]?=zK #[u] 77 /\
  (((((wr.setCell (zO P 0) u).setCell (zO R 0) v0).setCell (zO R 1) v1).setCell (zO R 2) v2).setCell (zO R 3) v3).heap[R]?=zK #[v0,v1,v2,v3] 31 /\
  zW w (((((wr.setCell (zO P 0) u).setCell (zO R 0) v0).setCell (zO R 1) v1).setCell (zO R 2) v2).setCell (zO R 3) v3):=by
 have h1:(wr.setCell (zO P 0) u).heap[P]?=zK #[u] 77:=xG _ _ _ _ _ _ h.pl;have h2:(wr.setCell (zO P 0) u).heap[R]?=_:=(xK _ _ _ _ h.ne.symm).trans h.ft;refine⟨?_,qhg h2 _ _ _ _,?_⟩
 ·exact(xK _ _ _ _ h.ne).trans ((xK _ _ _ _ h.ne).trans ((xK _ _ _ _ h.ne).trans ((xK _ _ _ _ h.ne).trans h1)))
 ·exact((((h.below.setCell (p:=zO P 0) h.le.1 u).setCell (p:=zO R 0) h.le.2 v0).setCell (p:=zO R 1) h.le.2 v1).setCell (p:=zO R 2) h.le.2 v2).setCell (p:=zO R 3) h.le.2 v3
theorem Mki.sv(h:Mki w wr P R){B:Nat}{F:Fix}{S:List Src}{vv:Value}{M:List Nat}{s:Sr}(hs:SvAt wr B F S vv M s)(u v0 v1 v2 v3:Value) :
  SvAt (((((wr.setCell (zO P 0) u).setCell (zO R 0) v0).setCell (zO R 1) v1).setCell (zO R 2) v2).setCell (zO R 3) v3) B F S vv M s:=
 (hs.other h.pl (by decide) (by decide) (by decide) (by decide) (by decide) 0 u).fault4 ((xK _ _ _ _ h.ne.symm).trans h.ft) v0 v1 v2 v3
theorem Mki.beside(h:Mki w wr P R){E:Nat}(hE:w.heap.size<=E)(h1:P≠E)(h2:R≠E)(v0 v1 v2 v3:Value):Mki w ((((wr.setCell (zO E 0) v0).setCell (zO E 1) v1).setCell (zO E 2) v2).setCell (zO E 3) v3) P R:=
 have e:∀q,q≠E->((((wr.setCell (zO E 0) v0).setCell (zO E 1) v1).setCell (zO E 2) v2).setCell (zO E 3) v3).heap[q]?=wr.heap[q]?:=fun _ hk=>(xK _ _ _ _ hk).trans ((xK _ _ _ _ hk).trans ((xK _ _ _ _ hk).trans (xK _ _ _ _ hk)))
 ⟨(e _ h1).trans h.pl,(e _ h2).trans h.ft,(((h.below.setCell (p:=zO E 0) hE v0).setCell (p:=zO E 1) hE v1).setCell (p:=zO E 2) hE v2).setCell (p:=zO E 3) hE v3,h.le,h.ne⟩
theorem Mki.cells(h:Mki w wr P R):wr.cell? (zO P 0)=some (zN)/\wr.frozen? (zO P 0)=false/\wr.cell? (zO R 0)=some (zI 0)/\wr.cell? (zO R 1)=some (zI 0)/\wr.cell? (zO R 2)=some (zS)/\wr.cell? (zO R 3)=some (zI 0)/\wr.frozen? (zO R 0)=false/\wr.frozen? (zO R 1)=false/\wr.frozen? (zO R 2)=false/\wr.frozen? (zO R 3)=false:=
 ⟨qaa h.pl 0 _ rfl,by simp[World.frozen?,h.pl],qaa h.ft 0 _ rfl,qaa h.ft 1 _ rfl,qaa h.ft 2 _ rfl,qaa h.ft 3 _ rfl,by simp[World.frozen?,h.ft],by simp[World.frozen?,h.ft],by simp[World.frozen?,h.ft],by simp[World.frozen?,h.ft]⟩
theorem qxg(T:zT)(v:Value)(L:List (zT×zT))(w:World)(hA:qk5 w v L)(hf:qck L=false) :
  zC 29 #[.string T,v] w (zR (.tuple #[.agg #[zN],.agg #[zI 1,zI 0,zS,zI 0]]) w):=by
 have h1:=fun w1 (hb:zW w w1)=>ql5 v L w1 (hA.kept hb);rw[hf]at h1;have H1:=zH h1;clear h1 hf hA;go_enter func29,ntmps29
 go_wp2_with fail
 refine(H1.out _ (Mki.start w).below).mono ?_;rintro ed w1 ⟨rfl,hb⟩;have HK:=(show Hid _ from(Mki.start w).next hb);obtain⟨p0,q0,x0,x1,x2,x3,y0,y1,y2,y3⟩:=HK.out.cells;clear hb;go_wp2_with fail
 have hs:=HK.out.set (zN) (zI 1) (zI 0) (zS) (zI 0);refine qhw results29 rfl w.heap.size (w.heap.size+1) _ _ rfl rfl hs.1 hs.2.1 _ _ underlying77 underlying31 rfl rfl (by kernel_rfl) (by kernel_rfl) ?_;exact⟨rfl,hs.2.2⟩
end
variable{w w' w1:World}{B g:Nat}{S:List Src}{pv:Nat->Value}{RL:Nat->List Rm}{vp ve:Value}
def qfl(pv:Nat->Value):Nat->List zT->List Value
 |_,[]=>[]
 |i,n::l=>.string n::pv i::qfl pv (i+1) l
theorem qir(pv:Nat->Value):∀(l:List zT) (i:Nat),(qfl pv i l).length=l.length*2
 |[],_=>rfl
 |n::l,i=>by show(qfl pv (i+1) l).length+2=_;rw[qir pv l (i+1),yK];omega
theorem qoa(pv:Nat->Value):∀(l:List zT) (i:Nat) (n:zT),qfl pv i (l++[n])=qfl pv i l++[.string n,pv (i+l.length)]
 |[],i,n=>rfl
 |m::l,i,n=>by
   show Value.string m::pv i::qfl pv (i+1) (l++[n])=_;rw[qoa pv l (i+1) n,show i+1+l.length=i+(m::l).length by simp;omega];rfl
theorem qki(pv:Nat->Value):∀(l:List zT) (i k:Nat) (n:zT),l[k]?=some n->(qfl pv i l)[k*2]?=some (.string n)/\(qfl pv i l)[k*2+1]?=some (pv (i+k))
 |[],i,k,n,h=>by simp at h
 |m::l,i,0,n,h=>by
   simp only[yS,Option.some.injEq]at h;subst h;exact⟨rfl,rfl⟩
 |m::l,i,k+1,n,h=>by
   have:=qki pv l (i+1) k n (by simpa using h);rw[show i+1+k=i+(k+1) by omega]at this;rw[show(k+1)*2=k*2+2 by omega];exact this
theorem qob{pv pv':Nat->Value}:∀(l:List zT) (i:Nat),(∀j,j<l.length->pv (i+j)=pv' (i+j))->qfl pv i l=qfl pv' i l
 |[],_,_=>rfl
 |m::l,i,h=>by
   have h0:pv i=pv' i:=h 0 (by simp);have h1:=qob (pv:=pv) (pv':=pv') l (i+1) (fun j hj=>by
    have:=h (j+1) (by rw[yK];omega)
    rwa [show i+(j+1)=i+1+j by omega]at this)
   show Value.string m::pv i::qfl pv (i+1) l=Value.string m::pv' i::qfl pv' (i+1) l;rw[h0,h1]
structure TpAt(w:World)(B g:Nat)(S:List Src)(N:List zT)(pv:Nat->Value)(RL:Nat->List Rm)(vp ve:Value):Prop where
 blk:w.heap[g]?=zK #[pv 0,vp,ve] 101
 le:B<=g
 parts:w.ownsRow B 134 2 vp N.length (qfl pv 1 N)
 row:∀i s,S[i]?=some s->w.ownsRow B 136 6 (pv i) (RL i).length (qd8 (RL i))/\RmsOf (RL i) s.parts
theorem TpAt.same{N:List zT}(h:TpAt w B g S N pv RL vp ve)(hg:w'.heap[g]?=w.heap[g]?)(hp:∀k,vp.ownBlock=some k->w'.heap[k]?=w.heap[k]?)(hr:∀i s k,S[i]?=some s->(pv i).ownBlock=some k->w'.heap[k]?=w.heap[k]?):TpAt w' B g S N pv RL vp ve:=
 ⟨hg.trans h.blk,h.le,qab h.parts hp,fun i s hs=>⟨qab (h.row i s hs).1 fun k hk=>hr i s k hs hk,(h.row i s hs).2⟩⟩
theorem TpAt.kept{N:List zT}(h:TpAt w B g S N pv RL vp ve)(hb:zW w w'):TpAt w' B g S N pv RL vp ve:=
 h.same (hb.block _ (zL h.blk)) (fun k hk=>hb.block k (h.parts.lt k hk).2) fun i s k hs hk=>hb.block k ((h.row i s hs).1.lt k hk).2
theorem TpAt.drew{N:List zT}(h:TpAt w B g S N pv RL vp ve):TpAt w.drew B g S N pv RL vp ve:=h.same rfl (fun _ _=>rfl) fun _ _ _ _ _=>rfl
theorem qlh:(101:TypeId)≠134:=by decide
theorem qwe:(101:TypeId)≠136:=by decide
theorem qub:(134:TypeId)≠136:=by decide
theorem TpAt.apart{N:List zT}(h:TpAt w B g S N pv RL vp ve)(hb:zW w w1)(Ha:w1.grownBy w' vp.ownBlock){k:Nat}{cs:Array Value}{t:TypeId}{fz:Nat×Nat}(hk:w.heap[k]?=some (.cells cs t fz))(ht:t≠134):w'.heap[k]?=w.heap[k]?:=by
 have ha:=(ya.1 hk).1;refine(Ha.block k (yi ha hb.size) (fun e=>?_)).trans (hb.block k ha);obtain⟨cur,hc⟩:=qac h.parts k e.symm;exact qae hk hc ht rfl
theorem TpAt.ahead{N:List zT}(h:TpAt w B g S N pv RL vp ve)(hb:zW w w1)(ha:w1.grownBy w' vp.ownBlock):w'.cell? (zO g 1)=some vp/\w'.frozen? (zO g 1)=false:=by
 have hg:=(h.apart hb ha h.blk qlh).trans h.blk;exact⟨qaa hg 1 _ rfl,xH _ _ 1 _ _ hg⟩
theorem TpAt.more{N:List zT}{vp':Value}(h:TpAt w B g S N pv RL vp ve)(Hb:S.length=N.length+1)(hb:zW w w1){n:zT}{u:Value}{R:List Rm}{s:Src}(hu:w.ownsRow B 136 6 u R.length (qd8 R))(hR:RmsOf R s.parts)(Ha:w'.ownsRow B 134 2 vp' (N.length+1) (qfl pv 1 N++[.string n,u]))(Hc:w1.grownBy w' vp.ownBlock)(He:vp'.ownBlock≠some g) :
  TpAt (w'.setCell (zO g 1) vp') B g (S++[s]) (N++[n]) (fun i=>if i=N.length+1 then u else pv i) (fun i=>if i=N.length+1 then R else RL i) vp' ve:=by
 have hg:=(h.apart hb Hc h.blk qlh).trans h.blk;have ha:∀k,k≠g->(w'.setCell (zO g 1) vp').heap[k]?=w'.heap[k]?:=fun k hk=>xK _ _ _ _ hk;have he:∀(v:Value) (m:Nat) (xs:List Value),w.ownsRow B 136 6 v m xs->(w'.setCell (zO g 1) vp').ownsRow B 136 6 v m xs:=fun v m xs hv=>qab hv fun k hk=>by
  obtain⟨cur,hc⟩:=qac hv k hk;exact(ha k (fun e=>qae h.blk hc qwe e.symm)).trans (h.apart hb Hc hc qub.symm)
 refine⟨?_,h.le,?_,fun i s' hs=>?_⟩
 ·rw[show (if 0=N.length+1 then u else pv 0)=pv 0 from if_neg (by omega)]
  exact xG w' g 1 _ _ _ hg
 ·rw[yJ,qoa,qob (pv':=pv) N 1 (fun j hj=>if_neg (by omega)),if_pos (by omega)]
  exact qab Ha fun k hk=>ha k (fun e=>He (by rw[<-e];exact hk))
 ·by_cases q:i<S.length
  ·rw[yr q]at hs
   rw[if_neg (by omega),if_neg (by omega)];exact⟨he _ _ _ (h.row i s' hs).1,(h.row i s' hs).2⟩
  ·have h1:=(yb.1 hs).1
   rw[yJ]at h1;simp only[yK,yQ]at h1;have e:i=S.length:=by omega
   subst e;rw[yt (yg _),xz]at hs;simp at hs;subst hs;rw[if_pos Hb,if_pos Hb];exact⟨he _ _ _ hu,hR⟩
def tkF(T:zT)(L:List (zT×zT)):Ft×List Src:=if qck L=false then(⟨1,0,[],0⟩,[])else qa5 (([],T.data.toList)::qau L)
def qt1(w:World)(T:zT)(L:List (zT×zT))(e:Ending)(w':World):Prop:=
 (∃p,e=.returned (.tuple #[p,qnt (tkF T L).1])/\((tkF T L).1.code=0->∃g pv RL vp,p=zP g/\TpAt w' w.heap.size g (tkF T L).2 (L.map (·.1)) pv RL vp (zN)))/\zW w w'
def qq8:Array Value:=#[zI 0,zI 0,zS,zI 0]
def set4(w:World)(g:Nat)(v0 v1 v2 v3:Value):World:=(((w.setCell (zO g 0) v0).setCell (zO g 1) v1).setCell (zO g 2) v2).setCell (zO g 3) v3
theorem qj1{t:TypeId}(h:w.heap[g]?=zK qq8 t)(v0 v1 v2 v3:Value):(set4 w g v0 v1 v2 v3).heap[g]?=zK #[v0,v1,v2,v3] t:=by
 have h1:=xG w g 0 _ _ v0 h;have h2:=xG _ g 1 _ _ v1 h1;have h3:=xG _ g 2 _ _ v2 h2;exact xG _ g 3 _ _ v3 h3
theorem qim{a:World}(h:Below B a w)(hg:B<=g)(v0 v1 v2 v3:Value):Below B a (set4 w g v0 v1 v2 v3):=
 (((h.setCell (p:=zO g 0) hg v0).setCell (p:=zO g 1) hg v1).setCell (p:=zO g 2) hg v2).setCell (p:=zO g 3) hg v3
theorem zcr:(prog.info? 31).map (·.size)=some 4:=by kernel_rfl
theorem q39{X:World}{T:zT}{L:List (zT×zT)}{a:Act}{f:Ft}{p:Value}(hX:X.heap[w.heap.size]?=zK #[zI f.code,zI f.kind,bs f.place,zI f.pos] 31)(hb:zW w X)(hv:(tkF T L).1=f)
  (hp:a.tmps.getD 5 undef=zP w.heap.size) (h4:a.tmps.getD 4 undef=p) (ha:a.defers=[]) (hk:f.code=0->∃g pv RL vp,p=zP g/\TpAt X w.heap.size g (tkF T L).2 (L.map (·.1)) pv RL vp (zN)) :
  bodyPost prog f32 (qt1 w T L) .ret a X:=by
 refine bodyPost_ret (qe4 (cs:=#[zI f.code,zI f.kind,bs f.place,zI f.pos]) results32 a.tmps _ w.heap.size _ hp (qaa hX) underlying31 rfl zcr) ha ?_;rw[h4];exact⟨⟨p,by rw[hv];rfl,fun h=>hk (by rw[<-hv];exact h)⟩,hb⟩
def tkZ(T:zT)(L:List (zT×zT)):List (zU×zU):=([],T.data.toList)::qau L
def tkS(Z:List (zU×zU)):List Src:=Z.map fun z=>⟨z.1,(qam z.2).2⟩
structure TkAt(w wr:World)(T:zT)(L:List (zT×zT))(g k:Nat)(pv:Nat->Value)(RL:Nat->List Rm)(vp:Value):Prop where
 res:wr.heap[w.heap.size]?=zK qq8 31
 tp:TpAt wr w.heap.size g (tkS ((tkZ T L).take (k+1))) ((L.map (·.1)).take k) pv RL vp (zN)
 below:zW w wr
 fine:∀i z,i<k+1->(tkZ T L)[i]?=some z->(qam z.2).1.1=0
theorem qol{B' n k:Nat}{e:TypeId}{v:Value}{xs:List Value}(h:w.ownsRow B e k v n xs)(hB:B'<=B):w.ownsRow B' e k v n xs:=by
 refine⟨h.1,h.2.imp id ?_⟩;rintro⟨g,cap,cur,h1,h2,h3⟩;exact⟨g,cap,cur,h1,yh hB h2,h3⟩
theorem q1x:(Value.agg #[zS,zN]).cells.size=2:=rfl
theorem q50:(prog.info? 134).map (fun i=>(i.zero,i.size,i.bytes))=some (some (.agg #[zS,zN]),2,40):=by kernel_rfl
end Go.Proofs.YtfkhljmiehdgmaaGreatDoor
