/-
  Steps of the proof.
-/
import Derived.Test.YtfkhljmiehdgmaaGreatDoorCuAB
namespace Go.Proofs.YtfkhljmiehdgmaaGreatDoor
open Go.RowKit Go.Proofs.Tryz Pl
namespace Pl
def pct1(b:UInt8):zU->Int
 |[]=>0
 |c::_=>if c=37/\among b qa1=true then 1 else 0
def pctR:zU->Int
 |[]=>0
 |b::l=>if b=37 then 2 else pct1 b l
theorem zby(l:zU):pctR (37::l)=2:=rfl
theorem q03{b:UInt8}(l:zU)(h:b≠37):pctR (b::l)=pct1 b l:=if_neg h
def qhq(run:zU):Int:=pctR run.reverse
theorem qjp(b:UInt8)(l:zU):refR (b::l)=(b==38 || (among b qdj && refR l)):=by
 have e:refR (b::l)=if b=38 then true else if among b qdj=true then refR l else false:=rfl;rw[e];by_cases h:b=38
 ·rw[if_pos h,yF.2 h];rfl
 ·rw[if_neg h,yf.2 h,Bool.false_or]
  by_cases q:among b qdj=true
  ·rw[if_pos q,q,Bool.true_and]
  ·rw[if_neg q,ye.2 q,Bool.false_and]
theorem q41(l:zU)(b:UInt8):qie (l++[b])=(b==38 || (among b qdj && qie l)):=by
 unfold qie;rw[List.reverse_append];exact qjp b _
theorem zct(b:UInt8):qxy b=among b qdj:=by
 have:∀n∈List.range 256,qxy (UInt8.ofNat n)=among (UInt8.ofNat n) qdj:=by decide +kernel
 have:=this b.toNat (xg.2 b.toNat_lt)
 rwa [UInt8.ofNat_toNat]at this
theorem q5a(b:UInt8)(l:zU):pct1 b l=0\/pct1 b l=1:=by
 match l with
 |[]=>exact .inl rfl
 |c::t=>
   have e:pct1 b (c::t)=if c=37/\among b qa1=true then 1 else 0:=rfl;rw[e];split
   ·exact .inr rfl
   ·exact .inl rfl
theorem q48(l:zU):pctR l=0\/pctR l=1\/(pctR l=2/\∃t,l=37::t):=by
 match l with
 |[]=>exact .inl rfl
 |b::l=>
   by_cases h:b=37
   ·subst h;exact .inr (.inr ⟨rfl,l,rfl⟩)
   ·rw[q03 l h]
    rcases q5a b l with q|q
    ·exact .inl q
    ·exact .inr (.inl q)
theorem q8f(b:UInt8)(l:zU):pctR (b::l)=if b=37 then 2 else qds (pctR l) b:=by
 by_cases h:b=37
 ·subst h;rfl
 ·rw[if_neg h,q03 l h]
  match l with
  |[]=>simp[qds,pctR,pct1]
  |c::t=>
    by_cases y:c=37
    ·subst y
     rw[zby];have e:pct1 b (37::t)=if(37:UInt8)=37/\among b qa1=true then 1 else 0:=rfl;rw[e];unfold qds;by_cases D:among b qa1=true
     ·have I:(37:UInt8)=37/\among b qa1=true:=⟨rfl,D⟩
      have J:(0:Int)<2/\among b hexB=true:=⟨by omega,D⟩;rw[if_pos I,if_pos J];rfl
     ·have I:¬((37:UInt8)=37/\among b qa1=true):=fun q=>D q.2
      have J:¬((0:Int)<2/\among b hexB=true):=fun q=>D q.2;rw[if_neg I,if_neg J]
    ·have I:pct1 b (c::t)=0:=if_neg (fun q=>y q.1)
     rw[I];rcases q48 (c::t)with q|q|⟨_,t',q⟩
     ·rw[q];unfold qds;rw[if_neg (fun z=>absurd z.1 (by omega))]
     ·rw[q];unfold qds;split<;>rfl
     ·simp only[List.cons.injEq]at q;exact absurd q.1 y
theorem q49(l:zU)(b:UInt8):qhq (l++[b])=if b=37 then 2 else qds (qhq l) b:=by
 unfold qhq;rw[List.reverse_append];exact q8f b _
theorem ze9:∀r:zU,refR r=true->pctR r=0
 |[],h=>by cases h
 |b::l,h=>by
   rw[qjp]at h;have D:b≠37:=by
    rintro rfl
    revert h
    have z:((37:UInt8)==38)=false:=by decide
    rw[z,show among 37 qdj=false by decide];simp
   rw[q03 l D]
   match l,h with
   |[],_=>rfl
   |c::t,h=>
     refine if_neg ?_;rintro⟨rfl,q⟩;have y:refR (37::t)=false:=by rw[qjp];rw[show((37:UInt8)==38)=false by decide,show among 37 qdj=false by decide];rfl
     rw[y,Bool.and_false,Bool.or_false,yF]at h;subst h
     revert q;decide
theorem q7l(r:zU)(h:refR r=false):refR (r.take 2)=false:=by
 match r,h with
 |[],_=>rfl
 |[b],h=>exact h
 |b::c::t,h=>
   show refR [b,c]=false;rw[qjp,qjp]at h |-;cases y:(b==38)
   ·rw[y]at h
    cases z:among b qdj
    ·rfl
    ·rw[z]at h
     cases D:(c==38)
     ·rw[show refR []=false from rfl,Bool.and_false];rfl
     ·rw[D]at h;cases h
   ·rw[y]at h;cases h
theorem q7m(r:zU):pctR (r.take 2)=pctR r:=by
 match r with
 |[]=>rfl
 |[b]=>rfl
 |b::c::t=>rfl
theorem q3q(l:zU):(l.drop (l.length - 2)).reverse=l.reverse.take 2:=by
 rw[List.reverse_drop];by_cases h:2<=l.length
 ·congr 1;omega
 ·rw[show l.length - (l.length - 2)=l.length by omega,yp (by simp),yp (by simp;omega)]
theorem zci(m:Int)(l:zU)(y:qca m=false):qie (kept m l)=qie l:=by
 unfold kept;rw[if_neg (by rw[y];simp)];by_cases h:qie l=true
 ·rw[if_pos h,h];rfl
 ·rw[if_neg h]
  have z:=ye.2 h;split
  ·rw[z];rfl
  ·split
   ·unfold qie
    rw[q3q,q7l _ z];exact z.symm
   ·rfl
theorem zcj(m:Int)(l:zU)(y:qca m=false)(z:¬(m=1\/m=19)):qhq (kept m l)=qhq l:=by
 unfold kept;rw[if_neg (by rw[y];simp)];by_cases h:qie l=true
 ·rw[if_pos h]
  exact(show qhq [38]=0 from rfl).trans (ze9 _ h).symm
 ·rw[if_neg h,if_neg z]
  split
  ·unfold qhq
   rw[q3q,q7m]
  ·rfl
theorem q25(m:Int)(l:zU)(y:qca m=true):qdz (qbg m) (kept m l)=qdz (qbg m) l:=by
 unfold kept;rw[if_pos y];split
 ·next h=>rw[h];rfl
 ·rfl
def qj4(f:Int):Int:=if f=0 then 2 else if f=1 then 3 else if f=2 then 4 else 1
structure MkPar(kind:Int)(m:Nat)(k:Mk)(esc:Bool)(run:zU)(far:Int):Prop where
 ref:k.ref=(decide (qa0 m=1) && qie run)
 hex:0<=k.hex
 str:qca m=true->(if esc=true then(1:Int)else if k.hex=0 then 0 else k.hex+1)=qdz (qbg m) run
 nostr:qca m=false->esc=false/\k.hex=0
 link:qb4 kind m=true->k.pct=qhq run/\qj4 k.far=far/\0<=k.far/\k.far<=3
 nolink:qb4 kind m=false->k.pct=0/\k.far=0
theorem qdy{kind:Int}{m:Nat}(h:qb4 kind m=true):(m=8\/m=9)/\kind=1:=by
 unfold qb4 at h;rw[yL,yU,yF,yF,yF]at h;exact⟨h.2,h.1⟩
theorem qf8:∀m:Nat,m<=33->qca (m:Int)=true->qa0 m≠1/\m≠8/\m≠9/\m≠1/\m≠19:=by
 have:∀m:Nat,m<=33->qca (m:Int)=true->qa0 m≠1/\m≠8/\m≠9/\m≠1/\m≠19:=by decide
 exact this
theorem q4b:∀m:Nat,m<=33->qa0 m=1->m=1\/m=8\/m=9\/m=19:=by decide
theorem q8r(kind:Int)(m:Nat):MkPar kind m Mk.none false [] (if m=8\/m=9 then 2 else 0):=by
 refine⟨?_,by decide,fun _=>rfl,fun _=>⟨rfl,rfl⟩,fun h=>⟨rfl,?_,by decide,by decide⟩,fun _=>⟨rfl,rfl⟩⟩
 ·show false=_
  rw[show qie []=false from rfl,Bool.and_false]
 ·rw[if_pos (qdy h).1];rfl
theorem qmr(kind:Int)(m:Nat)(far:Int)(h:m≠8)(y:m≠9):MkPar kind m Mk.none false [] far:=by
 refine⟨?_,by decide,fun _=>rfl,fun _=>⟨rfl,rfl⟩,fun q=>?_,fun _=>⟨rfl,rfl⟩⟩
 ·show false=_
  rw[show qie []=false from rfl,Bool.and_false]
 ·exfalso
  rcases(qdy q).1 with z|z
  ·exact h z
  ·exact y z
theorem zc2(kind:Int)(m:Nat)(f:Int)(b:UInt8)(D:qb4 kind m=true)(y:0<=f)(z:f<=3):qj4 (qdt kind m f b)=qcw (qj4 f) b/\0<=qdt kind m f b/\qdt kind m f b<=3:=by
 have I:f=0\/f=1\/f=2\/f=3:=by omega
 unfold qdt qcd;rw[D,Bool.true_and];have hd:among b qhz=(b==47 || (b==63 || (b==35 || b==58))):=by
  have:∀n∈List.range 256,among (UInt8.ofNat n) qhz=((UInt8.ofNat n)==47 || ((UInt8.ofNat n)==63 || ((UInt8.ofNat n)==35 || (UInt8.ofNat n)==58))):=by decide +kernel
  have:=this b.toNat (xg.2 b.toNat_lt)
  rwa [UInt8.ofNat_toNat]at this
 rw[hd];unfold qcw;cases J:(b==47)<;>cases O:(b==63)<;>cases T:(b==35)<;>cases U:(b==58)
 all_goals
  rcases I with rfl|rfl|rfl|rfl
  all_goals first
   |(refine⟨?_,?_,?_⟩<;>decide)
   |(exfalso;first|exact absurd ((yF.1 J).symm.trans (yF.1 O)) (by decide)|exact absurd ((yF.1 J).symm.trans (yF.1 T)) (by decide)|exact absurd ((yF.1 J).symm.trans (yF.1 U)) (by decide)|exact absurd ((yF.1 O).symm.trans (yF.1 T)) (by decide)|exact absurd ((yF.1 O).symm.trans (yF.1 U)) (by decide)|exact absurd ((yF.1 T).symm.trans (yF.1 U)) (by decide))
theorem q9x(css:Bool)(h:Int)(b:UInt8)(I:0<=h)(J:b≠92):(if qds h b=0 then(0:Int)else qds h b+1)=qcp css (if h=0 then 0 else h+1) b:=by
 have O:((if h=0 then 0 else h+1:Int)=0/\h=0)\/((if h=0 then 0 else h+1:Int)=h+1/\1<=h):=by
  by_cases T:h=0
  ·left;exact⟨if_pos T,T⟩
  ·right;exact⟨if_neg T,by omega⟩
 generalize (if h=0 then 0 else h+1:Int)=L at O;unfold qcp qds;have D:among b hexB=among b qa1:=rfl;rw[D];have U:¬L=1:=by omega
 rw[if_neg U];by_cases V:among b qa1=true
 ·rcases O with ⟨q,z⟩ | ⟨q,z⟩
  ·have c1:¬(0<h/\among b qa1=true):=fun q=>by omega
   have c2:¬(1<L/\among b qa1=true):=fun q=>by omega
   rw[if_neg c1,if_neg c2,if_neg J];rfl
  ·have c1:0<h/\among b qa1=true:=⟨by omega,V⟩
   have c2:1<L/\among b qa1=true:=⟨by omega,V⟩;rw[if_pos c1,if_pos c2];by_cases y:h - 1=0
   ·rw[if_pos y,if_pos (by omega)]
   ·rw[if_neg y,if_neg (by omega)];omega
 ·have c1:¬(0<h/\among b qa1=true):=fun q=>V q.2
  have c2:¬(1<L/\among b qa1=true):=fun q=>V q.2;rw[if_neg c1,if_neg c2,if_neg J];rfl
theorem qs2(kind:Int)(m:Nat)(U:m<=33)(k:Mk)(run:zU)(far:Int)(b:UInt8)(h:MkPar kind m k false run far)(V:qca (m:Int)=true->b≠92)
  (run':zU) (far':Int) (y:(qca (m:Int)=true\/qa0 m=1)->run'=kept m (run++[b])) (D:m=8\/m=9->far'=qcw far b) :
  MkPar kind m (qch kind m k b) false run' far':=by
 by_cases X:qca (m:Int)=true
 ·obtain⟨n1,n8,n9,_,_⟩:=qf8 m U X
  have Y:qb4 kind m=false:=by
   rw[ye];intro q;rcases(qdy q).1 with z|z
   ·exact n8 z
   ·exact n9 z
  have J:=h.str X;rw[if_neg (by simp)]at J;have Z:=h.hex;refine⟨?_,?_,fun _=>?_,fun q=>?_,fun q=>?_,fun _=>⟨?_,?_⟩⟩
  ·unfold qch;rw[if_neg n1,yx n1,Bool.false_and]
  ·show 0<=qds k.hex b
   unfold qds;split
   ·next q=>omega
   ·omega
  ·rw[if_neg (by simp),y (.inl X),q25 _ _ X,qg4,<-J]
   exact q9x _ _ _ Z (V X)
  ·rw[X]at q;cases q
  ·rw[Y]at q;cases q
  ·unfold qch;rw[Y];rfl
  ·unfold qch;rw[Y];rfl
 ·have I:=ye.2 X
  obtain⟨_,O⟩:=h.nostr I;refine⟨?_,?_,fun q=>absurd q X,fun _=>⟨rfl,?_⟩,fun Y=>?_,fun Y=>⟨?_,?_⟩⟩
  ·by_cases hw:qa0 m=1
   ·rw[yV hw,Bool.true_and,y (.inr hw),zci _ _ I,q41]
    unfold qch;rw[if_pos hw,zct,h.ref,yV hw,Bool.true_and,Bool.and_comm]
   ·rw[yx hw,Bool.false_and]
    unfold qch;rw[if_neg hw]
  ·show 0<=qds k.hex b
   rw[O];unfold qds;rw[if_neg (fun q=>absurd q.1 (by omega))];omega
  ·show qds k.hex b=0
   rw[O];unfold qds;rw[if_neg (fun q=>absurd q.1 (by omega))]
  ·obtain⟨l1,l2,l3,l4⟩:=h.link Y
   have T:=(qdy Y).1;have hw:qa0 m=1:=by rcases T with rfl|rfl<;>rfl
   obtain⟨f1,f2,f3⟩:=zc2 kind m k.far b Y l3 l4;have e1:(qch kind m k b).pct=if b=37 then 2 else qds k.pct b:=by unfold qch;rw[Y];rfl
   have e2:(qch kind m k b).far=qdt kind m k.far b:=by unfold qch;rw[Y];rfl
   rw[e1,e2,y (.inr hw),zcj _ _ I (by omega),q49,l1,D T,<-l2];exact⟨rfl,f1,f2,f3⟩
  ·unfold qch;rw[Y];rfl
  ·unfold qch;rw[Y];rfl
structure ParX(x:Sx)(p:Sp):Prop where
 par:Par x.st p
 kind:6<=x.st.mode->x.st.mode<=9->x.st.kind=qc1 p.attr
 plain:¬(6<=x.st.mode/\x.st.mode<=9)->x.st.kind=0
 ma:MkPar x.st.kind x.st.mode x.ma x.st.esc p.run p.far
theorem qxm(s:St)(t:Nat)(b:UInt8)(h:t≠34):(s.led1 t b).kind=if t=4\/t=5\/t=10 then 0 else s.kind:=by
 unfold St.led1;by_cases c3:t=3
 ·rw[if_pos c3,if_neg (by omega)]
 rw[if_neg c3];by_cases c5:t=5
 ·rw[if_pos c5,if_pos (by omega)]
 rw[if_neg c5];by_cases c4:t=4\/t=10
 ·rw[if_pos c4,if_pos (by omega)]
 rw[if_neg c4,if_neg h,if_neg (by omega)]
theorem qva(s:St)(t:Nat)(b:UInt8)(h:t≠34):(s.led t b).kind=if t=4\/t=5\/t=10 then 0 else if t≠s.mode/\s.mode=5 then qc1 s.name else s.kind:=by
 unfold St.led;by_cases q:t=s.mode
 ·have:¬(t≠s.mode/\s.mode=5):=fun z=>z.1 q
  rw[if_pos q,qxm s t b h,if_neg this]
 ·rw[if_neg q,qxm _ t b h]
  unfold St.named;by_cases w:s.mode=5
  ·have:t≠s.mode/\s.mode=5:=⟨q,w⟩
   rw[if_pos this,if_pos w]
  ·have:¬(t≠s.mode/\s.mode=5):=fun z=>w z.2
   rw[if_neg this,if_neg w]
theorem q5n{kind kind':Int}{m:Nat}{k:Mk}{esc:Bool}{run:zU}{far:Int}(h:MkPar kind m k esc run far)(D:m≠8)(I:m≠9):MkPar kind' m k esc run far:=by
 have no:∀z,qb4 z m=false:=fun z=>by
  rw[ye];intro q;rcases(qdy q).1 with y|y
  ·exact D y
  ·exact I y
 exact⟨h.ref,h.hex,h.str,h.nostr,fun q=>(by rw[no]at q;cases q),fun _=>h.nolink (no _)⟩
def qze(m:Nat)(c:UInt8):Bool:=if 6<=tgt m c/\tgt m c<=9 then decide (5<=m) && decide (m<=9)else true
theorem q6r:((List.range 34).all fun m=>(0::named).all fun c=>qze m c)=true:=by decide +kernel
theorem q6s(m:Nat)(y:m<=33)(b:UInt8)(h:6<=tgt m b/\tgt m b<=9):5<=m/\m<=9:=by
 have e:qze m b=qze m (cls b):=by unfold qze;rw[qnc m y b]
 have:=yW.1 ((yW.1 q6r) m (xg.2 (by omega))) _ (ql1 b);rw[<-e]at this;unfold qze at this;rw[if_pos h]at this;simpa only [yL,yN]using this
theorem ze7(r:Nat)(z:r<=33)(y:r≠19)(h:qca (r:Int)=true\/qa0 r=1):runs (r:Int)=true:=by
 unfold runs;rcases h with h|h
 ·rw[h];simp
 ·rcases q4b r z h with rfl | rfl | rfl | rfl
  ·rfl
  ·rfl
  ·rfl
  ·exact absurd rfl y
theorem qpn(n:zU):(qad n).kind=0/\(qad n).esc=false/\(qad n).mode≠8/\(qad n).mode≠9/\¬(6<=(qad n).mode/\(qad n).mode<=9):=by
 unfold qad qav
 repeat' split
 all_goals refine⟨rfl,rfl,?_,?_,?_⟩<;>simp
theorem qu8(m:Nat)(n e:zU)(k:Int)(rd:Nat)(K:Mk)(p:Sp)(b:UInt8)(hs:(St.mk m n e k rd false).Ok)(hx:ParX ⟨St.mk m n e k rd false,K⟩ p)(r t:Nat)(PR:zU)(PF:Int)
  (Ha:r=m->PR=p.run/\PF=p.far) (hc:r≠m->K=Mk.none/\PR=[]) (hb:qca (m:Int)=true->b≠92) (Hc:r≠19)
  (J:qr3 m b=true) (hr:qbx m b=r) (ht:qdg m b=t)
  (hT:tgt r b=t\/(tgt r b=-1/\t=34/\r=m)) :
  ParX (Sx.led ⟨St.mk r n e k rd false,K⟩ t b) ((Sp.mk r p.tag p.attr p.inside PR PF).step1 r b):=by
 have O:=qu9 m n e k rd p b hs hx.par r t PR PF (fun q=>(Ha q).1) hb J hr ht hT;unfold qr3 at J;simp only[yL,yN,yU]at J;rw[hr,ht]at J;obtain⟨⟨⟨⟨⟨⟨⟨⟨⟨⟨r1,r2⟩,t1⟩,t2⟩,hf⟩,he⟩,Hi⟩,h3⟩,h5⟩,h4⟩,Hb⟩:=J;have ghi:=hs.hi;have gk:=hx.kind;have gp:=hx.plain;have gm:=hx.ma;have e5:=hx.par.attrName;simp only at ghi gk gp gm e5;have hj:(m<19↔(t<19\/t=34))/\(m<19↔r<19):=by
  by_cases hm:m<19
  ·rw[if_pos hm]at hf
   simp only[yL,yU,yN]at hf;omega
  ·rw[if_neg hm]at hf
   simp only[yL,yN]at hf;omega
 clear hf;have He:MkPar k r K false PR PF:=by
  by_cases q:r=m
  ·obtain⟨q1,q2⟩:=Ha q
   rw[q1,q2,q];exact gm
  ·obtain⟨q1,q2⟩:=hc q
   rw[q1,q2];refine qmr k r PF ?_ ?_<;>omega
 rcases hT with hT|⟨hT,V,X⟩
 ·have c34:t≠34:=by
   intro c34;have:=qp0 r b r2;rw[hT]at this;subst c34;rcases this with q|q|⟨k,q,q'⟩<;>omega
  obtain⟨fm,_,_,fx,_⟩:=zcf (St.mk r n e k rd false) t b c34;have fk:=qva (St.mk r n e k rd false) t b c34;simp only at fx fk;have Hf:t=3\/t=5\/t=4\/(6<=t/\t<=10)->r=m:=by
   intro q;rcases he with z|z
   ·rcases z with z | z
    ·exact z
    ·exfalso
     have:∀c∈(0::named:zU),tgt 1 c=1\/tgt 1 c=2:=by decide
     have h1:=this _ (ql1 b);rw[<-qnc 1 (by omega) b]at h1;rw[z.2]at hT;omega
   ·omega
  have D:((Sp.mk r p.tag p.attr p.inside PR PF).step1 r b)=⟨t,(Sp.named ⟨r,p.tag,p.attr,p.inside,PR,PF⟩ r b t).tag,(Sp.named ⟨r,p.tag,p.attr,p.inside,PR,PF⟩ r b t).attr,(Sp.named ⟨r,p.tag,p.attr,p.inside,PR,PF⟩ r b t).inside,
    (if(t:Int)=r/\runs t=true then kept t (PR++[b]) else[]),(if(t:Int)=8\/(t:Int)=9 then(if(t:Int)=r then qcw PF b else 2) else 0)⟩:=by
   unfold Sp.step1;rw[hT,if_neg (by omega)]
  have Y:(Sx.led ⟨St.mk r n e k rd false,K⟩ t b).ma=if t=r then qch k r K b else Mk.none:=by
   show qms _ _ _ _=_;unfold qms;by_cases q:t=r
   ·rw[if_pos q,if_pos ⟨q,c34⟩]
   ·rw[if_neg q,if_neg (fun z=>q z.1)]
  have T:(Sx.led ⟨St.mk r n e k rd false,K⟩ t b).st=(St.mk r n e k rd false).led t b:=rfl;refine⟨O,fun q q'=>?_,fun q=>?_,?_⟩
  ·rw[T,fm]at q q'
   rw[T,fk,D];have hg:=Hf (by omega);have ha:=q6s r r2 b (by rw[hT];omega);have U:(Sp.named ⟨r,p.tag,p.attr,p.inside,PR,PF⟩ r b t).attr=p.attr:=by
    unfold Sp.named;rw[if_neg (by omega),if_neg (by omega),if_neg (by omega),if_pos (by omega)]
   show _=qc1 (Sp.named ⟨r,p.tag,p.attr,p.inside,PR,PF⟩ r b t).attr;rw[U,if_neg (by omega)];by_cases z:r=5
   ·have y:t≠r/\r=5:=⟨by omega,z⟩
    rw[if_pos y,e5 (by omega)]
   ·have y:¬(t≠r/\r=5):=fun y=>z y.2
    rw[if_neg y];exact gk (by omega) (by omega)
  ·rw[T,fm]at q
   rw[T,fk];by_cases z:t=4\/t=5\/t=10
   ·rw[if_pos z]
   ·rw[if_neg z]
    have Hj:¬(4<=m/\m<=10):=by
     by_cases y:t=3
     ·rw[if_pos y]at h3
      simp only[yU,yN]at h3;omega
     ·by_cases y19:t<19
      ·rw[if_pos (by omega)]at Hb
       simp only[yL,yU,yN]at Hb;omega
      ·omega
    have y:¬(t≠r/\r=5):=by
     rintro⟨_,y⟩;have:r=m\/(m=2/\r=1)\/24<=m:=by omega
     omega
    rw[if_neg y];exact gp (by omega)
  ·rw[T,fm,fx,Y,D]
   show MkPar _ t _ false (if(t:Int)=r/\runs t=true then kept t (PR++[b])else[]) (if(t:Int)=8\/(t:Int)=9 then(if(t:Int)=r then qcw PF b else 2)else 0);by_cases q:t=r
   ·subst q
    rw[if_pos rfl];have I:=qs2 k t r2 K PR PF b He (fun q=>by
     by_cases z:t=m
     ·exact hb (by rw[<-z];exact q)
     ·exfalso
      have Hg:t=qhm m:=by
       unfold qbx at hr;split at hr
       ·exact hr.symm
       ·exact absurd hr.symm z
      have:∀m:Nat,m<=33->qca (qhm m:Nat)=false:=by decide
      rw[Hg,this m ghi]at q;cases q)
     (if(t:Int)=t/\runs t=true then kept t (PR++[b])else[]) (if(t:Int)=8\/(t:Int)=9 then(if(t:Int)=t then qcw PF b else 2)else 0)
     (fun z=>by rw[if_pos ⟨rfl,ze7 t r2 Hc z⟩]) (fun z=>by rw[if_pos (by omega),if_pos rfl])
    by_cases z:t=4\/t=5\/t=10
    ·exact q5n I (by omega) (by omega)
    ·have y:¬(t≠t/\t=5):=fun y=>y.1 rfl
     rw[fk,if_neg z,if_neg y];exact I
   ·have q':¬(t:Int)=r:=by omega
    rw[if_neg q,if_neg (fun z=>q' z.1),if_neg q'];have:=q8r ((St.mk r n e k rd false).led t b).kind t;by_cases z:t=8\/t=9
    ·rw[if_pos z]at this
     rw[if_pos (by omega)];exact this
    ·rw[if_neg z]at this
     rw[if_neg (by omega)];exact this
 ·subst V X
  have Y:(Sx.led ⟨St.mk r n e k rd false,K⟩ 34 b).ma=Mk.none:=by
   show qms _ _ _ _=_;unfold qms;rw[if_neg (fun z=>z.2 rfl)]
  have hl:(Sx.led ⟨St.mk r n e k rd false,K⟩ 34 b).st=qad (if r=3 then qaw n else e):=by
   show(St.mk r n e k rd false).led 34 b=_;unfold St.led;have z:¬ 34=(St.mk r n e k rd false).mode:=by show ¬ 34=r;omega
   rw[if_neg z];rfl
  obtain⟨w1,w2,w3,w4,w5⟩:=qpn (if r=3 then qaw n else e);refine⟨O,fun q q'=>?_,fun _=>?_,?_⟩
  ·rw[hl]at q q'
   exact absurd ⟨q,q'⟩ w5
  ·rw[hl];exact w1
  ·rw[hl,Y,w2]
   have Z:((Sp.mk r p.tag p.attr p.inside PR PF).step1 r b).run=[]:=by
    unfold Sp.step1;rw[hT,if_pos rfl];split<;>rfl
   rw[Z];exact qmr _ _ _ w3 w4
def qru(m:Nat)(c:UInt8):Bool:=if tgt m c=-2 then decide (m=2) || (decide (m=24) || decide (m=31))else true
theorem zav:((List.range 34).all fun m=>(0::named).all fun c=>qru m c)=true:=by decide +kernel
theorem zaw(m:Nat)(y:m<=33)(b:UInt8)(h:tgt m b=-2):m=2\/m=24\/m=31:=by
 have e:qru m b=qru m (cls b):=by unfold qru;rw[qnc m y b]
 have:=yW.1 ((yW.1 zav) m (xg.2 (by omega))) _ (ql1 b);rw[<-e]at this;unfold qru at this;rw[if_pos h]at this;simpa only [yU,yN]using this
theorem zfk{kind:Int}{m:Nat}{k:Mk}{run:zU}{far:Int}(h:MkPar kind m k false run far)(z:m=2\/m=24\/m=31):k=Mk.none:=by
 obtain⟨a,c,d,f⟩:=k;have D:=h.ref;have I:qca (m:Int)=false:=by rcases z with rfl|rfl|rfl<;>decide
 have J:qb4 kind m=false:=by
  rw[ye];intro q;rcases(qdy q).1 with y|y<;>omega
 have O:decide (qa0 m=1)=false:=by rcases z with rfl|rfl|rfl<;>decide
 have T:=(h.nostr I).2;have U:=h.nolink J;simp only at D T U;rw[O,Bool.false_and]at D;rw[D,T,U.1,U.2];rfl
theorem qng(m:Nat)(n e:zU)(k:Int)(rd:Nat)(K:Mk)(p:Sp)(b:UInt8)(D:(St.mk m n e k rd false).Ok)(I:ParX ⟨St.mk m n e k rd false,K⟩ p)(PM:Int)(J:PM=m)(O:qca (m:Int)=true->b≠92)(z:m≠19) :
  ParX (Sx.led ⟨St.mk (qbx m b) n e k rd false,K⟩ (qdg m b) b) ((Sp.mk PM p.tag p.attr p.inside p.run p.far).step m b):=by
 subst J;have T:=D.lo;have U:=D.hi;simp only at T U;have V:=qm8 m T U b;have y:=qqa m T U b;unfold qv6 at V;unfold Sp.step;by_cases c2:tgt m b=-2
 ·rw[if_pos c2]at V |-
  simp only[yL,yN]at V;obtain⟨⟨a1,a2⟩,a3⟩:=V;have ne:qa8 m≠m:=by
   intro q;have:=qkf m b;rw[q]at this;exact this c2
  have a19:qa8 m≠19:=by
   unfold qa8
   repeat' split
   all_goals omega
  have:=qu8 m n e k rd K p b D I (qa8 m) (qdg m b) [] p.far (fun q=>absurd q ne) (fun _=>⟨zfk I.ma (zaw m U b c2),rfl⟩) O a19 y a1 rfl (.inl a2.symm);rw[a1];exact this
 ·rw[if_neg c2]at V |-
  by_cases c1:tgt m b=-1
  ·rw[if_pos c1]at V
   simp only[yL,yN]at V;rw[V.1.1.1];exact qu8 m n e k rd K p b D I m (qdg m b) p.run p.far (fun _=>⟨rfl,rfl⟩) (fun q=>absurd rfl q) O z y V.1.1.1 rfl (.inr ⟨c1,V.1.1.2,rfl⟩)
  ·rw[if_neg c1]at V
   simp only[yL,yN]at V;rw[V.1];exact qu8 m n e k rd K p b D I m (qdg m b) p.run p.far (fun _=>⟨rfl,rfl⟩) (fun q=>absurd rfl q) O z y V.1 rfl (.inl V.2.symm)
theorem q7q:∀m:Nat,m<=33->qca (m:Int)=true->m=21\/m=22\/m=23\/m=29\/m=30:=by decide
theorem q9y(m:Nat)(b:UInt8):(qa7 m true b).hex=if qdp m b (21,23,[120],2)=true then 2 else if qdp m b (21,23,[117],4)=true then 4 else if qdp m b (29,30,hexB,5)=true then 5 else 0:=by
 have e:qa7 m true b=match qfd.find? (qdp m b)with
  |some r=>⟨false,r.2.2.2,0,0⟩
  |none=>Mk.none:=rfl
 rw[e];unfold qfd;rw[List.find?_cons,List.find?_cons,List.find?_cons,List.find?_nil];cases qdp m b (21,23,[120],2)<;>cases qdp m b (21,23,[117],4)<;>cases qdp m b (29,30,hexB,5)<;>rfl
theorem q9u(m:Nat)(z:m<=33)(h:qca (m:Int)=true)(b:UInt8):(if(qa7 m true b).hex=0 then(0:Int)else(qa7 m true b).hex+1)=qcp (qbg m) 1 b:=by
 have D:among b hexB=among b qa1:=rfl;have e120:among b [120]=(b==120):=by
  show([120]:zU).any _=_;rw[List.any_cons,List.any_nil,Bool.or_false,Bool.beq_comm]
 have e117:among b [117]=(b==117):=by
  show([117]:zU).any _=_;rw[List.any_cons,List.any_nil,Bool.or_false,Bool.beq_comm]
 have e1:qcp (qbg m) 1 b=if(qbg m && among b qa1)=true then 6 else if(!qbg m && b==120)=true then 3 else if(!qbg m && b==117)=true then 5 else 0:=by unfold qcp;rw[if_pos rfl]
 have y:(b==120)=true->(b==117)=false:=fun q=>by rw[yF]at q;subst q;decide
 rw[q9y,e1];unfold qdp;simp only[D,e120,e117];rcases q7q m z h with rfl|rfl|rfl|rfl|rfl
 all_goals
  cases I:(b==120)<;>cases J:(b==117)<;>cases O:among b qa1
  all_goals first|rfl|(exfalso;rw[y I]at J;cases J)
theorem qyf(m:Nat)(z:Bool)(b:UInt8):(qa7 m z b).ref=false/\(qa7 m z b).pct=0/\(qa7 m z b).far=0:=by
 unfold qa7;split
 ·exact⟨rfl,rfl,rfl⟩
 ·split<;>exact⟨rfl,rfl,rfl⟩
theorem qsi(kind:Int)(m:Nat)(z:m<=33)(h:qca (m:Int)=true):qb4 kind m=false:=by
 obtain⟨_,n8,n9,_,_⟩:=qf8 m z h;rw[ye];intro q;rcases(qdy q).1 with y|y
 ·exact n8 y
 ·exact n9 y
theorem qxe(x:Sx)(p:Sp)(b:UInt8)(Hg:SxOk x)(h:ParX x p):ParX (x.behind b) (p.next b):=by
 obtain⟨⟨m,n,e,k,rd,z⟩,K⟩:=x;have I:=zb7 _ p b Hg.st h.par;have hs:=Hg.st;simp only at hs;have h1:=hs.lo;have h2:=hs.hi;have O:=hs.calm;have D:=h.par.mode;have hk:=h.kind;have hc:=h.plain;have U:=h.ma;simp only at h1 h2 O D hk hc U;have y:p.next b=if 19<=m then p.element m b else p.step m b:=by unfold Sp.next;rw[D,Int.toNat_natCast]
 have J:=qxs m h2;by_cases hm:19<=m
 ·rw[if_pos hm]at y
  have X:=h.par.tag hm;have Hc:=h.par.read hm;simp only at X Hc;have hf:k=0:=hc (by omega);have T:(St.mk m n e k rd z).ends b=true↔(p.read=(qcr p.tag).length/\among b qdl=true):=by
   unfold St.ends;rw[yL,yN,Hc,X];rfl
  unfold Sp.element at y;by_cases ce:p.read=(qcr p.tag).length/\among b qdl=true
  ·rw[if_pos ce]at y
   have hX:=q3x ⟨⟨m,n,e,k,rd,z⟩,K⟩ b hm (T.2 ce);have Hj:qc3 b=1\/qc3 b=12:=by
    unfold qc3;split
    ·exact .inl rfl
    ·exact .inr rfl
   refine⟨I,?_,?_,?_⟩
   ·rw[hX];intro q q'
    exfalso
    replace q:6<=qc3 b:=q
    replace q':qc3 b<=9:=q'
    omega
   ·rw[hX];intro _;rfl
   ·rw[hX]
    have V:(p.next b).run=[]:=by rw[y];split<;>rfl
    rw[V];refine qmr _ _ _ ?_ ?_<;>(simp only;omega)
  ·rw[if_neg ce]at y
   have He:¬(19<=(Sx.mk ⟨m,n,e,k,rd,z⟩ K).st.mode/\(Sx.mk ⟨m,n,e,k,rd,z⟩ K).st.ends b=true):=fun q=>ce (T.1 q.2);by_cases cs:qca (m:Int)=true
   ·have Y:¬m=19:=(qf8 m h2 cs).2.2.2.2
    have Hi:=(qf8 m h2 cs).1;have Z:=U.str cs;by_cases hz:z=true
    ·subst hz
     rw[if_pos rfl]at Z;have w:qca (m:Int)=true/\qdz (qbg m) p.run=1:=⟨cs,Z.symm⟩;rw[if_pos w]at y;have hX:=qy7 ⟨⟨m,n,e,k,rd,true⟩,K⟩ b He (by show(qa2.getD m false && (true || _))=true;rw[J,cs];rfl);obtain⟨r1,r2,r3⟩:=qyf m true b;refine⟨I,?_,?_,?_⟩
     ·rw[hX];intro q q';simp only at q';omega
     ·rw[hX];intro _;exact hf
     ·rw[hX,y]
      refine⟨?_,(qop m true b).hex.1,fun _=>?_,fun q=>?_,fun q=>?_,fun _=>⟨r2,r3⟩⟩
      ·show (qa7 m true b).ref=_
       rw[r1,yx Hi,Bool.false_and]
      ·show (if(!true)=true then(1:Int) else if(qa7 m true b).hex=0 then 0 else(qa7 m true b).hex+1)=qdz (qbg m) (p.run++[b])
       rw[if_neg (by simp),qg4,<-Z];exact q9u m h2 cs b
      ·replace q:qca (m:Int)=false:=q
       rw[cs]at q;cases q
      ·replace q:qb4 k m=true:=q
       rw[qsi k m h2 cs]at q;cases q
    ·have Ha:=ye.2 hz
     subst Ha;rw[if_neg (by simp)]at Z;have hh:=U.hex;have hj:¬qdz (qbg m) p.run=1:=by rw[<-Z];split<;>omega
     have w:¬(qca (m:Int)=true/\qdz (qbg m) p.run=1):=fun q=>hj q.2;rw[if_neg w,if_neg Y]at y;by_cases cb:b=92
     ·subst cb
      have hX:=qy7 ⟨⟨m,n,e,k,rd,false⟩,K⟩ 92 He (by show(qa2.getD m false && (false || _))=true;rw[J,cs];rfl);have V:(p.next 92).run=kept m (p.run++[92]):=by
       rw[y];unfold Sp.step Sp.step1;rw[qty m h2 cs,if_neg (by omega),if_neg (by omega)];have hb:(m:Int)=(m:Int)/\runs (m:Int)=true:=⟨rfl,by unfold runs;rw[cs];simp⟩;show(if _ then _ else _:zU)=_;rw[if_pos hb]
      refine⟨I,?_,?_,?_⟩
      ·rw[hX];intro q q';simp only at q';omega
      ·rw[hX];intro _;exact hf
      ·rw[hX,V]
       refine⟨?_,Int.le_refl 0,fun _=>?_,fun q=>?_,fun q=>?_,fun _=>⟨rfl,rfl⟩⟩
       ·show false=_
        rw[yx Hi,Bool.false_and]
       ·show (if(!false)=true then(1:Int) else _)=qdz (qbg m) _
        have ht:(!false)=true:=rfl;rw[if_pos ht,q25 _ _ cs,qg4,qoq _ _ hj]
       ·replace q:qca (m:Int)=false:=q
        rw[cs]at q;cases q
       ·replace q:qb4 k m=true:=q
        rw[qsi k m h2 cs]at q;cases q
     ·have hX:=qrn ⟨⟨m,n,e,k,rd,false⟩,K⟩ b _ _ He (by show (qa2.getD m false && (false || b==92))=false;rw[J,cs,yf.2 cb];rfl) rfl rfl
      rw[hX,y];have Hb:(St.mk m n e k rd false).nowRead b=(St.mk m n e k rd false).readEnd b:=by unfold St.nowRead;rw[if_pos hm]
      simp only;rw[Hb];refine qng m n e k _ K ⟨m,p.tag,p.attr,qce (p.inside++[b]),p.run,p.far⟩ b ?_ ⟨?_,hk,hc,U⟩ _ rfl (fun _=>cb) Y
      ·exact⟨h1,h2,hs.name,hs.named,hs.elem,hs.bare,fun hh=>by simp only at hh;omega,hs.calm,qkm _ b,hs.wrap,hs.high⟩
      ·refine⟨rfl,h.par.tagName,h.par.attrName,h.par.inTag,h.par.tag,fun _=>?_,h.par.esc⟩
       show qbr (qce (p.inside++[b])) (qcr p.tag) (qcr p.tag).length=_;rw[X,qqg _ _ _ hs.elem];have hr:qbr p.inside (qcr e) (qcr e).length=rd:=by
        have:p.read=qbr p.inside (qcr e) (qcr e).length:=by unfold Sp.read;rw[X]
        rw[<-this];exact Hc
       rw[hr];rfl
   ·have cs':=ye.2 cs
    obtain⟨Ha,Hk⟩:=U.nostr cs';subst Ha;have w:¬(qca (m:Int)=true/\qdz (qbg m) p.run=1):=fun q=>cs q.1;rw[if_neg w]at y;have hX:=qrn ⟨⟨m,n,e,k,rd,false⟩,K⟩ b _ _ He (by show(qa2.getD m false && _)=false;rw[J,cs'];rfl) rfl rfl;by_cases w19:m=19
    ·subst w19
     rw[if_pos rfl]at y;have ha:=qm8 19 (by omega) (by omega) b;have ht:tgt 19 b=19:=rfl;unfold qv6 at ha;rw[ht,if_neg (by omega),if_neg (by omega)]at ha;simp only[yL,yN]at ha;have Hf:qbx 19 b=19:=ha.1;have hg:qdg 19 b=19:=by omega
     simp only at hX;rw[Hf,hg]at hX;refine⟨I,?_,?_,?_⟩
     ·rw[hX];intro q q';exfalso;replace q':19<=9:=q';omega
     ·rw[hX];intro _;exact hf
     ·rw[hX,y]
      exact qs2 k 19 (by omega) K p.run p.far b U (fun q=>by cases q) _ _ (fun _=>rfl) (fun q=>by omega)
    ·rw[if_neg w19]at y
     rw[hX,y];have Hb:(St.mk m n e k rd false).nowRead b=(St.mk m n e k rd false).readEnd b:=by unfold St.nowRead;rw[if_pos hm]
     simp only;rw[Hb];refine qng m n e k _ K ⟨m,p.tag,p.attr,qce (p.inside++[b]),p.run,p.far⟩ b ?_ ⟨?_,hk,hc,U⟩ _ rfl (fun q=>absurd q cs) w19
     ·exact⟨h1,h2,hs.name,hs.named,hs.elem,hs.bare,fun hh=>by simp only at hh;omega,hs.calm,qkm _ b,hs.wrap,hs.high⟩
     ·refine⟨rfl,h.par.tagName,h.par.attrName,h.par.inTag,h.par.tag,fun _=>?_,h.par.esc⟩
      show qbr (qce (p.inside++[b])) (qcr p.tag) (qcr p.tag).length=_;rw[X,qqg _ _ _ hs.elem];have hr:qbr p.inside (qcr e) (qcr e).length=rd:=by
       have:p.read=qbr p.inside (qcr e) (qcr e).length:=by unfold Sp.read;rw[X]
       rw[<-this];exact Hc
      rw[hr];rfl
 ·rw[if_neg hm]at y
  have he:qa2.getD m false=false:=q9v m (by omega);have Ha:z=false:=O he;subst Ha;have hX:=qrn ⟨⟨m,n,e,k,rd,false⟩,K⟩ b _ _ (fun q=>hm q.1) (by show(qa2.getD m false && _)=false;rw[he];rfl) rfl rfl;rw[hX,y];have Hb:(St.mk m n e k rd false).nowRead b=rd:=by unfold St.nowRead;rw[if_neg hm]
  simp only;rw[Hb];exact qng m n e k rd K p b hs h p.mode D (fun q=>by have:=q28 m h2 q;omega) (by omega)
theorem qsy:ParX Sx.start Sp.start:=
 ⟨qqm,fun q=>(by revert q;decide),fun _=>rfl,qmr 0 1 0 (by decide) (by decide)⟩
theorem qx6(l:zU):∀(x:Sx) (p:Sp),SxOk x->ParX x p->ParX (qax x l) (qei p l):=by
 induction l with
 |nil=>intro x p _ h;exact h
 |cons b l ih=>intro x p y h;exact ih _ _ (qlk b y) (qxe x p b y h)
structure Vw where
 mode:Int
 elem:Int
 attr:Int
 ends:Int
 esc:Int
 pct:Int
 link:Int
 name:zU
 ref:Bool
def qbt(n:zU):Int:=if n=qcz\/[111,110] <+: n then 3 else if n=[104,114,101,102]\/n=[115,114,99]\/n=[97,99,116,105,111,110]then 2 else 1
theorem qns(n:zU):qbt n=qc1 n+1:=by
 unfold qbt;have y:([111,110]:zU).isPrefixOf n=true↔[111,110] <+: n:=List.isPrefixOf_iff_prefix;by_cases D:n=[104,114,101,102]
 ·subst D;rfl
 by_cases I:n=[115,114,99]
 ·subst I;rfl
 by_cases J:n=[97,99,116,105,111,110]
 ·subst J;rfl
 have f0:qbc n ([104,114,101,102],false,1)=false:=by unfold qbc;rw[Bool.false_and,Bool.or_false,yf];exact fun q=>D q.symm
 have f1:qbc n ([115,114,99],false,1)=false:=by unfold qbc;rw[Bool.false_and,Bool.or_false,yf];exact fun q=>I q.symm
 have f2:qbc n ([97,99,116,105,111,110],false,1)=false:=by unfold qbc;rw[Bool.false_and,Bool.or_false,yf];exact fun q=>J q.symm
 have z:¬(n=[104,114,101,102]\/n=[115,114,99]\/n=[97,99,116,105,111,110]):=by
  rintro(q|q|q)
  ·exact D q
  ·exact I q
  ·exact J q
 rw[if_neg z];unfold qc1 qdu;rw[List.find?_cons,f0,List.find?_cons,f1,List.find?_cons,f2,List.find?_cons];by_cases O:n=qcz
 ·have f3:qbc n (qcz,false,2)=true:=by unfold qbc;rw[O];rfl
  rw[f3,if_pos (.inl O)];rfl
 ·have f3:qbc n (qcz,false,2)=false:=by unfold qbc;rw[Bool.false_and,Bool.or_false,yf];exact fun q=>O q.symm
  rw[f3,List.find?_cons];by_cases T:[111,110] <+: n
  ·have f4:qbc n ([111,110],true,2)=true:=by unfold qbc;rw[Bool.true_and,y.2 T,Bool.or_true]
   rw[f4,if_pos (.inr T)];rfl
  ·have f4:qbc n ([111,110],true,2)=false:=by
    unfold qbc;rw[Bool.true_and,ye.2 (fun q=>T (y.1 q)),Bool.or_false,yf];rintro rfl;exact T (yA _)
   rw[f4,List.find?_nil,if_neg (fun q=>q.elim O T)];rfl
def qne(m:Int):Bool:=m==1 || (m==19 || (m==8 || m==9))
def Sp.view(p:Sp):Vw where
 mode:=p.mode
 elem:=if(3<p.mode/\p.mode<=10)\/19<=p.mode then qcu p.tag else 0
 attr:=if 6<=p.mode/\p.mode<=9 then qbt p.attr else 0
 ends:=if 19<=p.mode then p.read else 0
 esc:=if qca p.mode=true then qdz (qbg p.mode) p.run else 0
 pct:=if(p.mode=8\/p.mode=9)/\qbt p.attr=2 then qhq p.run else 0
 link:=if(p.mode=8\/p.mode=9)/\qbt p.attr=2 then p.far else 0
 name:=if p.mode=3 then p.tag else if p.mode=5 then p.attr else[]
 ref:=if qne p.mode=true then qie p.run else false
def Sx.view(x:Sx):Vw where
 mode:=x.st.mode
 elem:=qcu x.st.elem
 attr:=if 6<=x.st.mode/\x.st.mode<=9 then x.st.kind+1 else 0
 ends:=x.st.read
 esc:=if x.st.esc=true then 1 else if x.ma.hex=0 then 0 else x.ma.hex+1
 pct:=x.ma.pct
 link:=if qb4 x.st.kind x.st.mode=true then qj4 x.ma.far else 0
 name:=x.st.name
 ref:=x.ma.ref
theorem qo3(n:zU):qcu (qaw n)=qcu n:=by
 unfold qaw;split
 ·rfl
 ·next h=>
  simp only[not_or]at h;unfold qcu;rw[if_neg h.1,if_neg h.2.1,if_neg h.2.2.1,if_neg h.2.2.2];rfl
theorem q4a:∀m:Nat,m<=33->qne (m:Int)=decide (qa0 m=1):=by decide
theorem qmb(x:Sx)(p:Sp)(I:SxOk x)(h:ParX x p):p.view=x.view:=by
 have O:=h.par.mode;have T:=I.st;have J:=T.hi;have y:=T.bare;unfold Sp.view Sx.view;rw[O];have c1:(if(3<(x.st.mode:Int)/\(x.st.mode:Int)<=10)\/19<=(x.st.mode:Int)then(qcu p.tag:Int)else 0)=qcu x.st.elem:=by
  by_cases q:4<=x.st.mode/\x.st.mode<=10
  ·rw[if_pos (by omega),<-h.par.inTag q.1 q.2,qo3]
  ·by_cases q':19<=x.st.mode
   ·rw[if_pos (by omega),h.par.tag q']
   ·rw[if_neg (by omega),(y (by omega)).1];rfl
 have c2:(if 6<=(x.st.mode:Int)/\(x.st.mode:Int)<=9 then qbt p.attr else 0)=if 6<=x.st.mode/\x.st.mode<=9 then x.st.kind+1 else 0:=by
  by_cases q:6<=x.st.mode/\x.st.mode<=9
  ·rw[if_pos (by omega),if_pos q,h.kind q.1 q.2,qns]
  ·rw[if_neg (by omega),if_neg q]
 have c3:(if 19<=(x.st.mode:Int)then(p.read:Int)else 0)=x.st.read:=by
  by_cases q:19<=x.st.mode
  ·rw[if_pos (by omega),h.par.read q]
  ·rw[if_neg (by omega),T.low (by omega)];rfl
 have c4:(if qca (x.st.mode:Int)=true then qdz (qbg x.st.mode) p.run else 0)=if x.st.esc=true then 1 else if x.ma.hex=0 then 0 else x.ma.hex+1:=by
  by_cases q:qca (x.st.mode:Int)=true
  ·rw[if_pos q];exact(h.ma.str q).symm
  ·obtain⟨q1,q2⟩:=h.ma.nostr (ye.2 q)
   rw[if_neg q,q1,q2];rfl
 have D:(((x.st.mode:Int)=8\/(x.st.mode:Int)=9)/\qbt p.attr=2)↔qb4 x.st.kind x.st.mode=true:=by
  unfold qb4;rw[yL,yU,yF,yF,yF];constructor
  ·rintro⟨a,c⟩
   rw[qns,<-h.kind (by omega) (by omega)]at c;exact⟨by omega,by omega⟩
  ·rintro⟨a,c⟩
   rw[qns,<-h.kind (by omega) (by omega)];exact⟨by omega,by omega⟩
 have c5:(if((x.st.mode:Int)=8\/(x.st.mode:Int)=9)/\qbt p.attr=2 then qhq p.run else 0)=x.ma.pct:=by
  by_cases q:qb4 x.st.kind x.st.mode=true
  ·rw[if_pos (D.2 q)];exact(h.ma.link q).1.symm
  ·rw[if_neg (fun z=>q (D.1 z))];exact(h.ma.nolink (ye.2 q)).1.symm
 have c6:(if((x.st.mode:Int)=8\/(x.st.mode:Int)=9)/\qbt p.attr=2 then p.far else 0)=if qb4 x.st.kind x.st.mode=true then qj4 x.ma.far else 0:=by
  by_cases q:qb4 x.st.kind x.st.mode=true
  ·rw[if_pos (D.2 q),if_pos q];exact(h.ma.link q).2.1.symm
  ·rw[if_neg (fun z=>q (D.1 z)),if_neg q]
 have c7:(if(x.st.mode:Int)=3 then p.tag else if(x.st.mode:Int)=5 then p.attr else[])=x.st.name:=by
  by_cases q:x.st.mode=3
  ·rw[if_pos (by omega),h.par.tagName q]
  ·by_cases q':x.st.mode=5
   ·rw[if_neg (by omega),if_pos (by omega),h.par.attrName q']
   ·rw[if_neg (by omega),if_neg (by omega),T.named q q']
 have c8:(if qne (x.st.mode:Int)=true then qie p.run else false)=x.ma.ref:=by
  rw[q4a _ J,h.ma.ref];cases decide (qa0 x.st.mode=1)<;>rfl
 rw[c1,c2,c3,c4,c5,c6,c7,c8]
def qt3(x:Sx):Prop:=x.st.esc=true->x.ma.hex=0
theorem qvo(x:Sx)(b:UInt8)(y:SxOk x):qt3 (x.behind b):=by
 have z:=y.st;by_cases D:19<=x.st.mode/\x.st.ends b=true
 ·rw[q3x x b D.1 D.2];intro q;cases q
 ·cases I:(qa2.getD x.st.mode false && (x.st.esc || b==92))
  ·rw[qrn x b _ _ D I rfl rfl]
   have J:x.st.esc=false:=by
    by_cases q:qa2.getD x.st.mode false=true
    ·rw[q,Bool.true_and,Bool.or_eq_false_iff]at I
     exact I.1
    ·exact z.calm (ye.2 q)
   intro q;exfalso
   replace q:((St.mk (qbx x.st.mode b) x.st.name x.st.elem x.st.kind (x.st.nowRead b) x.st.esc).led (qdg x.st.mode b) b).esc=true:=q
   by_cases c:qdg x.st.mode b=34
   ·rw[c]at q
    unfold St.led at q;split at q
    ·rw[show ∀s:St,s.led1 34 b=qad s.elem from fun _=>rfl,(qpn _).2.1]at q;cases q
    ·rw[show ∀s:St,s.led1 34 b=qad s.elem from fun _=>rfl,(qpn _).2.1]at q;cases q
   ·rw[(zcf _ _ b c).2.2.2.1]at q
    simp only at q;rw[J]at q;cases q
  ·rw[qy7 x b D I]
   intro q
   replace q:(!x.st.esc)=true:=q
   show(qa7 x.st.mode x.st.esc b).hex=0
   have:x.st.esc=false:=by cases h:x.st.esc with
    |false=>rfl
    |true=>rw[h]at q;cases q
   rw[this];rfl
theorem qnz{n n':zU}(h:qje n)(y:qje n')(q:qcu n=qcu n'):n=n':=by
 rcases h with rfl|rfl|rfl|rfl|rfl<;>rcases y with rfl|rfl|rfl|rfl|rfl<;>first|rfl|(exfalso;revert q;decide)
theorem za4(x y:Sx)(p q:Sp)(V:SxOk x)(X:SxOk y)(ex:qt3 x)(ey:qt3 y)(px:ParX x p)(py:ParX y q)(h:x.view=y.view):x=y:=by
 have Y:x.st.mode=y.st.mode:=by
  have:=yE Vw.mode h;show _=_;have z:(x.st.mode:Int)=(y.st.mode:Int):=this;omega
 have Z:x.st.elem=y.st.elem:=by
  have z:(qcu x.st.elem:Int)=(qcu y.st.elem:Int):=yE Vw.elem h;exact qnz V.st.elem X.st.elem (by omega)
 have hn:x.st.name=y.st.name:=yE Vw.name h;have hr:x.st.read=y.st.read:=by
  have z:(x.st.read:Int)=(y.st.read:Int):=yE Vw.ends h;omega
 have hk:x.st.kind=y.st.kind:=by
  have z:(if 6<=x.st.mode/\x.st.mode<=9 then x.st.kind+1 else 0)=(if 6<=y.st.mode/\y.st.mode<=9 then y.st.kind+1 else 0):=yE Vw.attr h;by_cases c:6<=x.st.mode/\x.st.mode<=9
  ·rw[if_pos c,if_pos (by rw[<-Y];exact c)]at z;omega
  ·rw[px.plain c,py.plain (by rw[<-Y];exact c)]
 have D:x.ma.ref=y.ma.ref:=yE Vw.ref h;have I:x.ma.pct=y.ma.pct:=yE Vw.pct h;have J:x.ma.far=y.ma.far:=by
  have z:(if qb4 x.st.kind x.st.mode=true then qj4 x.ma.far else 0)=(if qb4 y.st.kind y.st.mode=true then qj4 y.ma.far else 0):=yE Vw.link h;rw[<-hk,<-Y]at z;by_cases c:qb4 x.st.kind x.st.mode=true
  ·rw[if_pos c,if_pos c]at z
   obtain⟨_,_,a1,a2⟩:=px.ma.link c;obtain⟨_,_,b1,b2⟩:=py.ma.link (by rw[<-hk,<-Y];exact c);unfold qj4 at z
   repeat' split at z
   all_goals omega
  ·rw[(px.ma.nolink (ye.2 c)).2,(py.ma.nolink (by rw[<-hk,<-Y];exact ye.2 c)).2]
 have O:x.st.esc=y.st.esc/\x.ma.hex=y.ma.hex:=by
  have z:(if x.st.esc=true then(1:Int)else if x.ma.hex=0 then 0 else x.ma.hex+1)=(if y.st.esc=true then(1:Int)else if y.ma.hex=0 then 0 else y.ma.hex+1):=yE Vw.esc h;have x0:=px.ma.hex;have y0:=py.ma.hex;cases a:x.st.esc<;>cases c:y.st.esc
  ·rw[a,c]at z
   replace z:(if x.ma.hex=0 then(0:Int)else x.ma.hex+1)=(if y.ma.hex=0 then(0:Int)else y.ma.hex+1):=z
   refine⟨rfl,?_⟩;by_cases c1:x.ma.hex=0<;>by_cases c2:y.ma.hex=0
   ·omega
   ·rw[if_pos c1,if_neg c2]at z;omega
   ·rw[if_neg c1,if_pos c2]at z;omega
   ·rw[if_neg c1,if_neg c2]at z;omega
  ·rw[a,c]at z
   replace z:(if x.ma.hex=0 then(0:Int)else x.ma.hex+1)=1:=z
   exfalso;by_cases c1:x.ma.hex=0
   ·rw[if_pos c1]at z;omega
   ·rw[if_neg c1]at z;omega
  ·rw[a,c]at z
   replace z:(1:Int)=(if y.ma.hex=0 then(0:Int)else y.ma.hex+1):=z
   exfalso;by_cases c1:y.ma.hex=0
   ·rw[if_pos c1]at z;omega
   ·rw[if_neg c1]at z;omega
  ·exact⟨rfl,by rw[ex a,ey c]⟩
 obtain⟨⟨m,n,e,k,r,z⟩,⟨rf,U,pc,fr⟩⟩:=x;obtain⟨⟨m',n',e',k',r',z'⟩,⟨rf',T,pc',fr'⟩⟩:=y;simp only at Y Z hn hr hk D I J O;obtain⟨h1,h2⟩:=O;subst Y Z hn hr hk D I J h1 h2;rfl
def Sx.halfway(x:Sx):Bool:=x.ma.ref || (x.st.esc || (decide (0<x.ma.hex) || (decide (0<x.ma.pct) || decide (0<x.st.read))))
def Sx.hole(x:Sx):Int×Int:=
 if qa0 x.st.mode=0 then(0,10)else if x.st.kind=2 then(0,11)else if x.halfway=true then(0,12)
 else if qb4 x.st.kind x.st.mode=true/\x.ma.far=0 then(2,0)else if qb4 x.st.kind x.st.mode=true then(3,0)else(qa0 x.st.mode,0)
def Sx.behindHole(x:Sx):Sx:=if qb4 x.st.kind x.st.mode=true/\x.ma.far<2 then⟨x.st,⟨x.ma.ref,x.ma.hex,x.ma.pct,2⟩⟩else x
def Vw.as(v:Vw):Int:=
 if v.mode=1\/v.mode=19 then 1 else if v.mode=8\/v.mode=9 then(if v.link=2 then 2 else if v.attr=2 then 3 else 1)else if v.mode=21\/v.mode=22 then 4 else if v.mode=29\/v.mode=30 then 5 else 0
def Vw.hole(v:Vw):Int×Int:=if v.as=0 then(0,10)else if v.attr=3 then(0,11)else if(v.ref || (decide (0<v.esc) || (decide (0<v.pct) || decide (0<v.ends))))=true then(0,12)else(v.as,0)
def Sp.behindHole(p:Sp):Sp:=if p.view.link=2\/p.view.link=3 then⟨p.mode,p.tag,p.attr,p.inside,p.run,4⟩else p
theorem q80(x:Sx)(p:Sp)(h:ParX x p):(x.view.link=2↔qb4 x.st.kind x.st.mode=true/\x.ma.far=0)/\(x.view.link=3↔qb4 x.st.kind x.st.mode=true/\x.ma.far=1)/\(x.view.link=4↔qb4 x.st.kind x.st.mode=true/\x.ma.far=2):=by
 have e:x.view.link=if qb4 x.st.kind x.st.mode=true then qj4 x.ma.far else 0:=rfl;rw[e];by_cases c:qb4 x.st.kind x.st.mode=true
 ·obtain⟨_,_,a,b⟩:=h.ma.link c
  rw[if_pos c];unfold qj4;have:x.ma.far=0\/x.ma.far=1\/x.ma.far=2\/x.ma.far=3:=by omega
  rcases this with q|q|q|q<;>rw[q]<;>simp[c]
 ·rw[if_neg c]
  refine⟨⟨fun q=>by omega,fun q=>absurd q.1 c⟩,⟨fun q=>by omega,fun q=>absurd q.1 c⟩,⟨fun q=>by omega,fun q=>absurd q.1 c⟩⟩
theorem qhl(x:Sx)(p:Sp)(y:SxOk x)(h:ParX x p):ParX x.behindHole p.behindHole:=by
 obtain⟨l2,l3,_⟩:=q80 x p h;unfold Sx.behindHole Sp.behindHole;rw[qmb x p y h];by_cases c:qb4 x.st.kind x.st.mode=true
 ·obtain⟨a1,a2,a3,a4⟩:=h.ma.link c
  by_cases f:x.ma.far<2
  ·have D:x.view.link=2\/x.view.link=3:=by
    by_cases z:x.ma.far=0
    ·exact .inl (l2.2 ⟨c,z⟩)
    ·exact .inr (l3.2 ⟨c,by omega⟩)
   rw[if_pos ⟨c,f⟩,if_pos D];refine⟨⟨h.par.mode,h.par.tagName,h.par.attrName,h.par.inTag,h.par.tag,h.par.read,h.par.esc⟩,h.kind,h.plain,?_⟩;exact⟨h.ma.ref,h.ma.hex,h.ma.str,h.ma.nostr,fun _=>⟨a1,rfl,(by show(0:Int)<=2;omega),(by show(2:Int)<=3;omega)⟩,fun q=>by rw[c]at q;cases q⟩
  ·have D:¬(x.view.link=2\/x.view.link=3):=by
    rintro(q|q)
    ·have:=(l2.1 q).2;omega
    ·have:=(l3.1 q).2;omega
   rw[if_neg (fun q=>f q.2),if_neg D];exact h
 ·have D:¬(x.view.link=2\/x.view.link=3):=by
   rintro(q|q)
   ·exact c (l2.1 q).1
   ·exact c (l3.1 q).1
  rw[if_neg (fun q=>c q.1),if_neg D];exact h
theorem qi9(x:Sx)(h:SxOk x):SxOk x.behindHole:=by
 unfold Sx.behindHole;split
 ·exact⟨h.st,⟨h.ma.hex,h.ma.pct⟩⟩
 ·exact h
theorem qr8(x:Sx)(h:qt3 x):qt3 x.behindHole:=by
 unfold Sx.behindHole;split
 ·exact h
 ·exact h
end Pl
end Go.Proofs.YtfkhljmiehdgmaaGreatDoor
