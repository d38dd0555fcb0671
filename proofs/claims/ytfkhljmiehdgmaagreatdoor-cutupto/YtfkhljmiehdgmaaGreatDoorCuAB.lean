/-
  Steps of the proof.
-/
import Derived.Test.YtfkhljmiehdgmaaGreatDoorCuAA
namespace Go.Proofs.YtfkhljmiehdgmaaGreatDoor
open Go.RowKit Go.Proofs.Tryz Pl
namespace Pl
structure Sp where
 mode:Int
 tag:zU
 attr:zU
 inside:zU
 run:zU
 far:Int
def Sp.start:Sp:=⟨1,[],[],[],[],0⟩
def qcu(n:zU):Nat:=if n=qd1 then 1 else if n=qg0 then 2 else if n=qcx then 3 else if n=qcz then 4 else 0
def qcr(n:zU):zU:=60::47::n
def qgb(inside e:zU)(n:Nat):Bool:=decide (n<=inside.length) && ((inside.drop (inside.length - n)).map small==e.take n)
def qbr(inside e:zU):Nat->Nat
 |0=>0
 |n+1=>if qgb inside e (n+1)then n+1 else qbr inside e n
def Sp.read(p:Sp):Nat:=qbr p.inside (qcr p.tag) (qcr p.tag).length
def qca(m:Int):Bool:=m==21 || (m==22 || (m==23 || (m==29 || m==30)))
def qa1:zU:=[48,49,50,51,52,53,54,55,56,57,97,98,99,100,101,102,65,66,67,68,69,70]
def qcp(css:Bool)(left:Int)(b:UInt8):Int:=
 if left=1 then(if(css && among b qa1)=true then 6 else if(!css && b==120)=true then 3 else if(!css && b==117)=true then 5 else 0)
 else if 1<left/\among b qa1=true then(if left - 1=1 then 0 else left - 1)
 else if b=92 then 1 else 0
def qdz(css:Bool)(run:zU):Int:=run.foldl (qcp css) 0
def qce(s:zU):zU:=if 12<s.length then s.drop (s.length - 12)else s
def qdj:zU:=[97,98,99,100,101,102,103,104,105,106,107,108,109,110,111,112,113,114,115,116,117,118,119,120,121,122,65,66,67,68,69,70,71,72,73,74,75,76,77,78,79,80,81,82,83,84,85,86,87,88,89,90,48,49,50,51,52,53,54,55,56,57,35]
def refR:zU->Bool
 |[]=>false
 |b::l=>if b=38 then true else if among b qdj=true then refR l else false
def qie(run:zU):Bool:=refR run.reverse
def qbg(m:Int):Bool:=decide (28<=m)
def kept(m:Int)(run:zU):zU:=
 if qca m=true then(if qdz (qbg m) run=0 then[]else run)
 else if qie run=true then[38]else if m=1\/m=19 then[]else if 2<run.length then run.drop (run.length - 2)else run
def qjm:zU:=[97,98,99,100,101,102,103,104,105,106,107,108,109,110,111,112,113,114,115,116,117,118,119,120,121,122,65,66,67,68,69,70,71,72,73,74,75,76,77,78,79,80,81,82,83,84,85,86,87,88,89,90]
def bl:zU:=[9,10,12,13,32]
def bls:zU:=[9,10,12,13,32,47]
def zfg:List (List (zU×Int)):=[[],
 [([60],2)],
 [(qjm,3),([47],11),([33],13),([],-2)],
 [(bls,4),([62],-1)],
 [(bls,4),([62],-1),([],5)],
 [(bl,6),([61],7),([47],4),([62],-1)],
 [(bl,6),([61],7),([47],4),([62],-1),([],5)],
 [(bl,7),([34],8),([39],9),([62],-1),([],10)],
 [([34],4)],
 [([39],4)],
 [(bl,4),([62],-1)],
 [(qjm,12),([62],1),([],18)],
 [([62],1)],
 [([45],14),([62],1),([],18)],
 [([45],15),([62],1),([],18)],
 [([45],16)],
 [([45],17),([],15)],
 [([62],1),([45],17),([],15)],
 [([62],1)]]
def zcn:List (List (zU×Int)):=[
 [([34],21),([39],22),([96],23),([47],24)],
 [([34,10],20)],
 [([39,10],20)],
 [([96],20)],
 [([47],25),([42],26),([],-2)],
 [([10],20)],
 [([42],27)],
 [([47],20),([42],27),([],26)],
 [([34],29),([39],30),([47],31)],
 [([34,10],28)],
 [([39,10],28)],
 [([42],32),([],-2)],
 [([42],33)],
 [([47],28),([42],33),([],32)]]
def qkq(m:Nat):List (zU×Int):=zfg.getD m []
def qmv(m:Nat):List (zU×Int):=zcn.getD (m - 20) []
def qfn(m:Nat):List (zU×Int):=if 20<=m then qmv m else qkq m
def qla(b:UInt8)(r:zU×Int):Bool:=r.1==[] || among b r.1
def tgt(m:Nat)(b:UInt8):Int:=match (qfn m).find? (qla b)with
 |some r=>r.2
 |none=>m
def qfx(s:zU):zU:=if 9<s.length then s.take 9 else s
def qcw(far:Int)(b:UInt8):Int:=if(b==47 || (b==63 || (b==35 || (b==58 && far != 4))))=true then 1 else if far=2 then 3 else far
def Sp.named(p:Sp)(m:Nat)(b:UInt8)(tz:Int):Sp:=
 if 19<=tz then⟨0,p.tag,[],p.inside,[],0⟩
 else if tz=3 then⟨0,if m=2 then[small b]else qfx (p.tag++[small b]),[],p.inside,[],0⟩
 else if tz=5 then⟨0,p.tag,if m=5 then qfx (p.attr++[small b])else[small b],p.inside,[],0⟩
 else if tz=6\/tz=7\/tz=8\/tz=9 then⟨0,p.tag,p.attr,p.inside,[],0⟩
 else if tz=4\/tz=10 then⟨0,p.tag,[],p.inside,[],0⟩
 else⟨0,[],[],p.inside,[],0⟩
def runs(tz:Int):Bool:=tz==1 || (tz==8 || (tz==9 || qca tz))
def Sp.step1(p:Sp)(m:Nat)(b:UInt8):Sp:=
 if tgt m b=-1 then(if qav p.tag=1 then Sp.start else⟨qav p.tag,p.tag,[],[],[],0⟩)
 else⟨tgt m b,(p.named m b (tgt m b)).tag,(p.named m b (tgt m b)).attr,(p.named m b (tgt m b)).inside,
  if tgt m b=m/\runs (tgt m b)=true then kept (tgt m b) (p.run++[b])else[],
  if tgt m b=8\/tgt m b=9 then(if tgt m b=m then qcw p.far b else 2) else 0⟩
def qa8(m:Nat):Nat:=if m=24 then 20 else if m=31 then 28 else 1
def Sp.step(p:Sp)(m:Nat)(b:UInt8):Sp:=
 if tgt m b=-2 then(Sp.mk (qa8 m) p.tag p.attr p.inside [] p.far).step1 (qa8 m) b else p.step1 m b
def Sp.element(p:Sp)(m:Nat)(b:UInt8):Sp:=
 if p.read=(qcr p.tag).length/\among b qdl=true then(if b=62 then Sp.start else⟨12,[],[],[],[],0⟩)
 else if qca m=true/\qdz (qbg m) p.run=1 then⟨m,p.tag,p.attr,qce (p.inside++[b]),p.run++[b],p.far⟩
 else if m=19 then⟨m,p.tag,p.attr,qce (p.inside++[b]),kept m (p.run++[b]),p.far⟩
 else(Sp.mk m p.tag p.attr (qce (p.inside++[b])) p.run p.far).step m b
def Sp.next(p:Sp)(b:UInt8):Sp:=if 19<=p.mode.toNat then p.element p.mode.toNat b else p.step p.mode.toNat b
variable{n:Nat}{p:Sp}
theorem q57(l:zU):(qfx l).length<=9:=by
 unfold qfx;split
 ·rw[yP];omega
 ·omega
theorem qnf(l:zU):(qce l).length<=12:=by
 unfold qce;split
 ·rw[yM];omega
 ·omega
theorem q24(m:Int)(l:zU)(b:UInt8):(kept m (l++[b])).length<=l.length+1:=by
 unfold kept
 repeat' split
 all_goals simp
 all_goals omega
theorem qp0(m:Nat)(b:UInt8)(y:m<=33):tgt m b=-1\/tgt m b=-2\/∃k:Nat,tgt m b=k/\k<=33:=by
 have key:∀k:Fin 34,∀r∈qfn k.val,-2<=r.2/\r.2<=33:=by decide
 have h:-2<=tgt m b/\tgt m b<=33:=by
  unfold tgt;split
  ·next r z=>exact key ⟨m,by omega⟩ r (List.mem_of_find?_eq_some z)
  ·omega
 by_cases D:tgt m b=-1
 ·exact .inl D
 by_cases I:tgt m b=-2
 ·exact .inr (.inl I)
 exact .inr (.inr ⟨(tgt m b).toNat,by omega,by omega⟩)
structure SpOk(n:Nat)(p:Sp):Prop where
 mode:∃m:Nat,p.mode=m/\m<=33
 tag:p.tag.length<=9
 attr:p.attr.length<=9
 inside:p.inside.length<=12
 run:p.run.length<=n
theorem qnj(n:Nat):SpOk n Sp.start:=⟨⟨1,rfl,by omega⟩,by decide,by decide,by decide,yH _⟩
theorem qyu(n:zU):qav n<=33:=by
 unfold qav
 repeat' split
 all_goals omega
theorem zb8(h:SpOk n p)(m:Nat)(b:UInt8)(tz:Int):(p.named m b tz).tag.length<=9/\(p.named m b tz).attr.length<=9/\(p.named m b tz).inside.length<=12:=by
 have a:=h.tag;have c:=h.attr;have d:=h.inside;unfold Sp.named
 repeat' split
 all_goals refine⟨?_,?_,?_⟩
 all_goals first|assumption|exact q57 _|simp
theorem q2o(h:SpOk n p)(m:Nat)(b:UInt8)(y:m<=33)(z:¬tgt m b=-2):SpOk (n+1) (p.step1 m b):=by
 unfold Sp.step1;by_cases D:tgt m b=-1
 ·rw[if_pos D]
  split
  ·exact qnj _
  ·exact⟨⟨_,rfl,qyu _⟩,h.tag,yH _,yH _,yH _⟩
 ·rw[if_neg D]
  have k:=zb8 h m b (tgt m b);refine⟨?_,k.1,k.2.1,k.2.2,?_⟩
  ·rcases qp0 m b y with q | q | q
   ·exact absurd q D
   ·exact absurd q z
   ·exact q
  ·show (if _ then _ else _:zU).length<=_
   split
   ·exact yh (q24 _ _ _) (Nat.succ_le_succ h.run)
   ·exact yH _
theorem ql4(m:Nat):qa8 m<=33:=by
 unfold qa8
 repeat' split
 all_goals omega
theorem qkf(m:Nat)(b:UInt8):¬tgt (qa8 m) b=-2:=by
 have key:∀r∈qfn 20++qfn 28++qfn 1,¬r.2=-2:=by decide
 have h:qa8 m=20\/qa8 m=28\/qa8 m=1:=by
  unfold qa8
  repeat' split
  all_goals simp
 intro q;unfold tgt at q;split at q
 ·next r y=>
  have y:=List.mem_of_find?_eq_some y;refine key r ?_ q;rcases h with h|h|h<;>rw[h]at y<;>simp[y]
 ·omega
theorem q7r(h:SpOk n p)(m:Nat)(b:UInt8)(y:m<=33):SpOk (n+1) (p.step m b):=by
 unfold Sp.step;split
 ·exact q2o (p:=Sp.mk (qa8 m) p.tag p.attr p.inside [] p.far) ⟨⟨qa8 m,rfl,ql4 m⟩,h.tag,h.attr,h.inside,yH _⟩ _ b (ql4 m) (qkf m b)
 ·next z=>exact q2o h m b y z
theorem q6a(h:SpOk n p)(m:Nat)(b:UInt8)(y:m<=33):SpOk (n+1) (p.element m b):=by
 unfold Sp.element;split
 ·split
  ·exact qnj _
  ·exact⟨⟨12,rfl,by omega⟩,by decide,by decide,by decide,yH _⟩
 ·split
  ·exact⟨⟨m,rfl,y⟩,h.tag,h.attr,qnf _,by have:=h.run;simp only[yJ,List.length_singleton];omega⟩
  ·split
   ·exact⟨⟨m,rfl,y⟩,h.tag,h.attr,qnf _,yh (q24 _ _ _) (Nat.succ_le_succ h.run)⟩
   ·exact q7r (p:=Sp.mk m p.tag p.attr (qce (p.inside++[b])) p.run p.far) ⟨⟨m,rfl,y⟩,h.tag,h.attr,qnf _,h.run⟩ m b y
theorem zfi(h:SpOk n p)(b:UInt8):SpOk (n+1) (p.next b):=by
 obtain⟨m,z,y⟩:=h.mode;have e:p.mode.toNat=m:=by rw[z];rfl
 unfold Sp.next;rw[e];split
 ·exact q6a h m b y
 ·exact q7r h m b y
theorem qo0(n:zU):qje (qaw n):=by
 unfold qaw qje;split
 ·rename_i h
  exact .inr h
 ·exact .inl rfl
theorem qks{n:zU}(h:qje n):n.length<=8:=by
 rcases h with rfl|rfl|rfl|rfl|rfl<;>decide
theorem qs6(n:zU)(b:UInt8)(h:n.length<=9):(qc8 n b).length<=9:=by
 unfold qc8;split
 ·exact h
 ·rw[yJ];simp;omega
theorem qqy(n:zU):0<=qc1 n/\qc1 n<=3:=by
 unfold qc1;cases h:qdu.find? (qbc n)with
 |none=>exact⟨by decide,by decide⟩
 |some r=>
   have y:=List.mem_of_find?_eq_some h;have:∀r∈qdu,0<=r.2.2/\r.2.2<=3:=by decide
   exact this r y
theorem q9v:∀m,m<19->qa2.getD m false=false:=by decide
theorem q43:∀m,m<=33->qek.getD (qek.getD m 0) 0=0/\qek.getD m 0<=33:=by decide
theorem qkm(s:St)(b:UInt8):s.readEnd b<=s.ending.length:=by
 unfold St.readEnd;split
 ·rename_i h
  have:=(yb.1 h).1;omega
 ·split
  ·simp[St.ending]
  ·exact yH _
theorem q6y{n:zU}(h:qje n):(qad n).Ok:=by
 rcases h with rfl|rfl|rfl|rfl|rfl
 all_goals
  refine⟨by decide,by decide,by decide,fun _ _=>by decide,?_,by decide,by decide,by decide,by decide,by decide,by decide⟩;unfold qje;decide
theorem zbm:St.start.Ok:=by
 refine⟨by decide,by decide,by decide,fun _ _=>rfl,.inl rfl,fun _=>⟨rfl,rfl⟩,fun _=>rfl,fun _=>rfl,by decide,by decide,fun h=>by revert h;decide⟩
theorem zc7(b:UInt8):(St.mk (qc3 b) [] [] 0 0 false).Ok:=by
 unfold qc3;split
 all_goals
  refine⟨by decide,by decide,by decide,fun _ _=>rfl,.inl rfl,fun _=>⟨rfl,rfl⟩,fun _=>rfl,fun _=>rfl,by decide,by decide,fun h=>by revert h;decide⟩
theorem zbk{s:St}(b:UInt8)(h:s.Ok)(y:s.esc=false):(s.table b).Ok:=by
 rw[qo8];have T:=qqa s.mode h.lo h.hi b;have U:=h.named;unfold qr3 at T;simp only[yL,yN,yU]at T;generalize qbx s.mode b=r at T |-;generalize qdg s.mode b=t at T |-;obtain⟨⟨⟨⟨⟨⟨⟨⟨⟨⟨r1,r2⟩,t1⟩,t2⟩,V⟩,X⟩,J⟩,Y⟩,Z⟩,h4⟩,hp⟩:=T;obtain⟨m,n,e,k,rd,x⟩:=s;simp only at *;subst y;have g1:=h.name;have g2:=h.elem;have g3:=h.bare;have g4:=h.low;have g6:=h.read;have g7:=h.wrap;have g8:=h.high;simp only at g1 g2 g3 g4 g6 g7 g8;have hZ:∃zn ze zk,(St.mk r n e k rd false).led t b=(St.mk r zn ze zk rd false).led1 t b/\zn.length<=9/\(t≠3->t≠5->zn=[])/\qje ze/\-3<=zk/\zk<=3/\(r≠3\/t=r->ze=e)/\(r≠5\/t=r->zk=k):=by
  by_cases ht:t=r
  ·refine⟨n,e,k,?_,g1,?_,g2,g7.1,g7.2,fun _=>rfl,fun _=>rfl⟩
   ·unfold St.led;rw[if_pos ht]
   ·intro a b
    refine U ?_ ?_<;>omega
  ·refine⟨[],if r=3 then qaw n else e,if r=5 then qc1 n else k,?_,by simp,fun _ _=>rfl,?_,?_,?_,?_,?_⟩
   ·unfold St.led;rw[if_neg ht];rfl
   ·split
    ·exact qo0 n
    ·exact g2
   ·split
    ·have:=qqy n;omega
    ·exact g7.1
   ·split
    ·have:=qqy n;omega
    ·exact g7.2
   ·intro hh
    rw[if_neg (by omega)]
   ·intro hh
    rw[if_neg (by omega)]
 obtain⟨zn,ze,zk,z,z1,z2,z3,z4,z5,z6,z7⟩:=hZ;rw[z];unfold St.led1;have D:m<19->rd=0:=g4;by_cases c3:t=3
 ·rw[if_pos c3]
  simp only[c3,if_true,yU,yN]at Y;have hb:=g3 (by omega);refine⟨by simp only;omega,by simp only;omega,qs6 zn b z1,fun hh=>absurd c3 hh,z3,fun _=>?_,fun _=>g4 (by omega),fun _=>rfl,by have:=g4 (by omega);simp only;omega,⟨z4,z5⟩,fun hh=>by simp only at hh;omega⟩;refine⟨(z6 ?_).trans hb.1,(z7 (by omega)).trans hb.2⟩;omega
 rw[if_neg c3];by_cases c5:t=5
 ·rw[if_pos c5]
  simp only[c5,if_true,yU,yN]at Z;refine⟨by simp only;omega,by simp only;omega,qs6 zn b z1,fun _ hh=>absurd c5 hh,z3,fun hh=>by simp only at hh;omega,fun _=>g4 (by omega),fun _=>rfl,by have:=g4 (by omega);simp only;omega,⟨by simp only;omega,by simp only;omega⟩,fun hh=>by simp only at hh;omega⟩
 rw[if_neg c5];have I:=z2 c3 c5;by_cases c4:t=4\/t=10
 ·rw[if_pos c4]
  rw[if_pos (by omega)]at h4;simp only[yL,yN]at h4;refine⟨by simp only;omega,by simp only;omega,z1,fun _ _=>I,z3,fun hh=>by simp only at hh;omega,fun _=>g4 (by omega),fun _=>rfl,by have:=g4 (by omega);simp only;omega,⟨by simp only;omega,by simp only;omega⟩,fun hh=>by simp only at hh;omega⟩
 rw[if_neg c4];by_cases c34:t=34
 ·rw[if_pos c34]
  exact q6y z3
 rw[if_neg c34];have O:(m<19↔t<19)/\(m<19↔r<19):=by
  by_cases hm:m<19
  ·rw[if_pos hm]at V
   simp only[yL,yU,yN]at V;omega
  ·rw[if_neg hm]at V
   simp only[yL,yN]at V;omega
 refine⟨by simp only;omega,by simp only;omega,z1,fun _ _=>I,z3,fun hh=>?_,fun hh=>g4 (by simp only at hh;omega),fun _=>rfl,?_,⟨z4,z5⟩,fun hh=>?_⟩
 ·simp only at hh
  rw[if_pos (by omega)]at hp;simp only[yL,yU,yN]at hp;have hb:=g3 (by omega);exact⟨(z6 (by omega)).trans hb.1,(z7 (by omega)).trans hb.2⟩
 ·by_cases hm:m<19
  ·have:=g4 hm;simp only;omega
  ·have:=z6 (by omega)
   subst this;exact g6
 ·simp only at hh
  have hb:=g8 (by omega);exact⟨by rw[show ze=e from z6 (by omega)];exact hb.1,(z7 (by omega)).trans hb.2⟩
theorem qy9{s:St}(b:UInt8)(h:s.Ok):(s.behind b).Ok:=by
 have quiet:∀s:St,s.Ok->(s.quiet b).Ok:=by
  intro s h;unfold St.quiet;split
  ·rename_i y
   simp only[yL]at y;exact⟨h.lo,h.hi,h.name,h.named,h.elem,h.bare,h.low,fun z=>(by simp only at z;rw[y.1]at z;cases z),h.read,h.wrap,h.high⟩
  ·rename_i y
   refine zbk b h ?_;by_cases D:qa2.getD s.mode false=true
   ·rw[D,Bool.true_and]at y
    simp only[yU,not_or,Bool.not_eq_true]at y;exact y.1
   ·exact h.calm (ye.2 D)
 unfold St.behind;split
 ·split
  ·exact zc7 b
  ·refine quiet _ ⟨h.lo,h.hi,h.name,h.named,h.elem,h.bare,fun z=>?_,h.calm,qkm s b,h.wrap,h.high⟩
   simp only at z;omega
 ·exact quiet _ h
theorem qmm(l e:zU)(n:Nat)(y:n<=e.length):qgb l e n=true↔e.take n <:+ l.map small:=by
 unfold qgb;rw[yL,yN,yF];constructor
 ·rintro⟨h,q⟩
  rw[<-q,List.map_drop];exact List.drop_suffix _ _
 ·intro h
  have z:=h.length_le;rw[yP,yR,Nat.min_eq_left y]at z;refine⟨z,?_⟩;rw[List.map_drop];have:=List.suffix_iff_eq_drop.1 h;rw[yP,yR,Nat.min_eq_left y]at this;exact this.symm
theorem qqi(l e:zU):∀k,qbr l e k<=k
 |0=>yg _
 |k+1=>by
   unfold qbr;split
   ·exact yg _
   ·exact Nat.le_succ_of_le (qqi l e k)
theorem qnm(l e:zU):∀k,qbr l e k=0\/qgb l e (qbr l e k)=true
 |0=>.inl rfl
 |k+1=>by
   unfold qbr;split
   ·next h=>exact .inr h
   ·exact qnm l e k
theorem qnl(l e:zU):∀k n,n<=k->qgb l e n=true->n<=qbr l e k
 |0,n,hn,_=>by omega
 |k+1,n,hn,h=>by
   unfold qbr;split
   ·exact hn
   ·next y=>
    rcases Nat.lt_or_ge n (k+1)with q|q
    ·exact qnl l e k n (by omega) h
    ·have:n=k+1:=by omega
     subst this;exact absurd h y
def Once(e:zU):Prop:=∀j,1<=j->e[j]?≠some 60
theorem qvh(l e:zU)(D:Once e)(I:e[0]?=some 60)(n k:Nat)(J:n<=e.length)(O:k<=e.length)(T:1<=n)(z:n<=k)(U:qgb l e n=true)(hK:qgb l e k=true):n=k:=by
 rw[qmm _ _ _ J]at U;rw[qmm _ _ _ O]at hK;obtain⟨a,V⟩:=U;obtain⟨c,X⟩:=hK;have y:a.length+n=c.length+k:=by
  have:=yE List.length (V.trans X.symm);simpa [List.length_append,List.length_take,Nat.min_eq_left J,Nat.min_eq_left O]using this
 rcases Nat.lt_or_ge n k with q|q
 ·exfalso
  have g1:(a++e.take n)[a.length]?=some 60:=by
   rw[yt (yg _),xz,List.getElem?_take,if_pos (by omega)];exact I
  have g2:(c++e.take k)[a.length]?=e[k - n]?:=by
   rw[yt (by omega),List.getElem?_take,if_pos (by omega),show a.length - c.length=k - n by omega]
  rw[V,<-X,g2]at g1;exact D (k - n) (by omega) g1
 ·omega
theorem q0u(l e:zU)(b:UInt8)(n:Nat)(z:n<e.length):qgb (l++[b]) e (n+1)=true↔qgb l e n=true/\e[n]?=some (small b):=by
 rw[qmm _ _ _ z,qmm _ _ _ (yj z)];have D:e.take (n+1)=e.take n++[e[n]]:=yB z;rw[D,yG,List.map_singleton,yc z];constructor
 ·rintro⟨a,I⟩
  rw[<-yq]at I;obtain⟨x,y⟩:=List.append_inj' I rfl;simp only[List.cons.injEq,and_true]at y;exact⟨⟨a,x⟩,by rw[y]⟩
 ·rintro⟨⟨a,I⟩,J⟩
  simp only[Option.some.injEq]at J;exact⟨a,by rw[<-yq,I,J]⟩
theorem qst(l e:zU):qgb l e 0=true:=by simp[qgb]
theorem q0w(l e:zU)(b:UInt8)(X:Once e)(Y:e[0]?=some 60) :
  qbr (l++[b]) e e.length=if e[qbr l e e.length]?=some (small b)then qbr l e e.length+1 else if b=60 then 1 else 0:=by
 have I:0<e.length:=by
  rcases Nat.eq_zero_or_pos e.length with q|q
  ·rw[yC q]at Y;simp at Y
  ·exact q
 have V:small b=60↔b=60:=by
  have:∀n∈List.range 256,(small (UInt8.ofNat n)=60↔UInt8.ofNat n=60):=by decide +kernel
  have:=this b.toNat (xg.2 b.toNat_lt)
  rwa [UInt8.ofNat_toNat]at this
 have Z:qgb l e (qbr l e e.length)=true:=by
  rcases qnm l e e.length with q|q
  ·rw[q];exact qst _ _
  ·exact q
 have O:∀n,n<=e.length->qgb l e n=true->n=0\/n=qbr l e e.length:=by
  intro n hn h;rcases Nat.eq_zero_or_pos n with q|q
  ·exact .inl q
  ·have:=qnl l e e.length n hn h
   exact .inr (qvh l e X Y n _ hn (qqi _ _ _) q this h Z)
 generalize qbr l e e.length=r at *;have D:∀n,n+1<=e.length->qgb (l++[b]) e (n+1)=true->(n=0\/n=r)/\e[n]?=some (small b):=by
  intro n hn h;obtain⟨p,q⟩:=(q0u l e b n (by omega)).1 h;exact⟨O n (by omega) p,q⟩
 have U:=qqi (l++[b]) e e.length;have J:=qnm (l++[b]) e e.length;have T:=qnl (l++[b]) e e.length;generalize qbr (l++[b]) e e.length=R at *;by_cases c1:e[r]?=some (small b)
 ·rw[if_pos c1]
  have hr:=(yb.1 c1).1;have hR:=(q0u l e b r hr).2 ⟨Z,c1⟩;have g1:=T (r+1) hr hR;have g2:qgb (l++[b]) e R=true:=by
   rcases J with q|q
   ·omega
   ·exact q
  exact(qvh (l++[b]) e X Y (r+1) R hr U (by omega) g1 hR g2).symm
 ·rw[if_neg c1]
  by_cases c2:b=60
  ·rw[if_pos c2]
   have hR:=(q0u l e b 0 I).2 ⟨qst _ _,by rw[Y,V.2 c2]⟩;have g1:=T 1 I hR;have g2:qgb (l++[b]) e R=true:=by
    rcases J with q|q
    ·omega
    ·exact q
   exact(qvh (l++[b]) e X Y 1 R I U (by omega) g1 hR g2).symm
  ·rw[if_neg c2]
   rcases J with q|q
   ·exact q
   ·rcases Nat.eq_zero_or_pos R with z | z
    ·exact z
    ·exfalso
     obtain⟨n,rfl⟩:∃n,R=n+1:=⟨R - 1,by omega⟩;obtain⟨x,y⟩:=D n U q;rcases x with rfl|rfl
     ·rw[Y]at y
      simp only[Option.some.injEq]at y;exact c2 (V.1 y.symm)
     ·exact c1 y
theorem q0v(l e:zU)(y:e.length<=12):qbr (qce l) e e.length=qbr l e e.length:=by
 have key:∀n,n<=e.length->qgb (qce l) e n=qgb l e n:=by
  intro n z;unfold qce;split
  ·next h=>
   unfold qgb;rw[yM,yD];rw[show l.length - 12+(l.length - (l.length - 12) - n)=l.length - n by omega];have:decide (n<=l.length - (l.length - 12))=decide (n<=l.length):=by rw[decide_eq_decide];omega
   rw[this]
  ·rfl
 have:∀k,k<=e.length->qbr (qce l) e k=qbr l e k:=by
  intro k
  induction k with
  |zero=>intro _;rfl
  |succ k ih=>intro D;unfold qbr;rw[key _ D,ih (by omega)]
 exact this _ (yg _)
theorem zb5{n:zU}(h:qje n):Once (qcr n)/\(qcr n)[0]?=some 60/\(qcr n).length<=12:=by
 refine⟨?_,rfl,by have:=qks h;unfold qcr;simp only[yK];omega⟩;have key:∀n:zU,qje n->(qcr n).length<=10:=by
  intro n h;have:=qks h;unfold qcr;simp only[yK];omega
 intro j z D;have I:=(yb.1 D).1;have y:=key n h;have J:(List.range 10).all (fun j=>j==0 || !((qcr n)[j]?==some 60))=true:=by
  rcases h with rfl|rfl|rfl|rfl|rfl<;>decide
 have:=yW.1 J j (xg.2 (by omega));simp only[yU,yF,Bool.not_eq_true',yf]at this;rcases this with h|h
 ·omega
 ·exact h D
theorem qqg(l n:zU)(b:UInt8)(h:qje n) :
  qbr (qce (l++[b])) (qcr n) (qcr n).length=if(qcr n)[qbr l (qcr n) (qcr n).length]?=some (small b)then qbr l (qcr n) (qcr n).length+1 else if b=60 then 1 else 0:=by
 obtain⟨a,c,d⟩:=zb5 h;rw[q0v _ _ d,q0w _ _ _ a c]
theorem qm7(b:UInt8):among b qjm=qbl b:=by
 have:∀n∈List.range 256,among (UInt8.ofNat n) qjm=qbl (UInt8.ofNat n):=by decide +kernel
 have:=this b.toNat (xg.2 b.toNat_lt)
 rwa [UInt8.ofNat_toNat]at this
theorem q5s(b:UInt8):qbl (cls b)=qbl b:=by
 have:∀n∈List.range 256,qbl (cls (UInt8.ofNat n))=qbl (UInt8.ofNat n):=by decide +kernel
 have:=this b.toNat (xg.2 b.toNat_lt)
 rwa [UInt8.ofNat_toNat]at this
theorem q2f(b:UInt8)(l:zU)(y:l.all (fun c=>among c named && !qbl c)=true):among b l=among (cls b) l:=by
 have z:l.all (fun c=>among c named)=true:=by
  rw[yW]at y |-;intro c D;have:=y c D;rw[yL]at this;exact this.1
 rw[<-qzj b l z];unfold qec;by_cases I:qbl b=true
 ·rw[if_pos I]
  have no:∀x,qbl x=true->among x l=false:=by
   intro x J;rw[ye];intro O;have:=yW.1 y x (qho.1 O);rw[J]at this;simp at this
  rw[no b I,no 97 (by decide)]
 ·rw[if_neg I]
def q75(l:List (zU×Int)):Bool:=l.all fun r=>r.1==qjm || r.1.all (fun c=>among c named && !qbl c)
theorem q4y:((List.range 34).all fun m=>q75 (qfn m))=true:=by decide +kernel
theorem qnc(m:Nat)(y:m<=33)(b:UInt8):tgt m b=tgt m (cls b):=by
 have z:=yW.1 q4y m (xg.2 (by omega));unfold tgt;rw[qnu (qfn m)];intro r D;have:=yW.1 z r D;rw[yU,yF]at this;unfold qla;rcases this with h|h
 ·rw[h,qm7,qm7,q5s]
 ·rw[q2f b r.1 h]
def qv6(m:Nat)(c:UInt8):Bool:=
 if tgt m c=-2 then decide (qbx m c=qa8 m) && decide ((qdg m c:Int)=tgt (qa8 m) c) && decide (tgt (qa8 m) c≠-1)
 else if tgt m c=-1 then decide (qbx m c=m) && decide (qdg m c=34) && decide (3<=m) && decide (m<=10)
 else decide (qbx m c=m) && decide ((qdg m c:Int)=tgt m c)
theorem zau:((List.range 34).all fun m=>m==0 || (0::named).all fun c=>qv6 m c)=true:=by decide +kernel
theorem qm8(m:Nat)(y:1<=m)(z:m<=33)(b:UInt8):qv6 m b=true:=by
 have e:qv6 m b=qv6 m (cls b):=by
  have D:=ql4 m;unfold qv6;rw[qnc m z b,qnk,qxn,qnc _ D b]
 rw[e];have:=(yW.1 zau) m (xg.2 (by omega));simp only[yU,yF]at this;rcases this with h|h
 ·omega
 ·exact yW.1 h _ (ql1 b)
structure Par(s:St)(p:Sp):Prop where
 mode:p.mode=(s.mode:Int)
 tagName:s.mode=3->p.tag=s.name
 attrName:s.mode=5->p.attr=s.name
 inTag:4<=s.mode->s.mode<=10->qaw p.tag=s.elem
 tag:19<=s.mode->p.tag=s.elem
 read:19<=s.mode->p.read=s.read
 esc:qca s.mode=true->s.esc=decide (qdz (qbg s.mode) p.run=1)
theorem qqm:Par St.start Sp.start:=
 ⟨rfl,fun h=>(by cases h),fun h=>(by cases h),fun h=>(by revert h;decide),fun h=>(by revert h;decide),fun h=>(by revert h;decide),fun h=>(by revert h;decide)⟩
theorem qm0(n:zU)(b:UInt8)(h:n.length<=9):qfx (n++[small b])=qc8 n b:=by
 unfold qfx qc8;by_cases q:n.length=9
 ·rw[if_pos q,if_pos (by simp;omega),xD (by omega),yp (by omega)]
 ·rw[if_neg q,if_neg (by simp;omega)]
theorem ql0(n:zU):qav (qaw n)=qav n:=by
 unfold qaw;split
 ·rfl
 ·next h=>
  simp only[not_or]at h;unfold qav;rw[if_neg h.1,if_neg h.2.1,if_neg h.2.2.1,if_neg h.2.2.2];rfl
theorem qos(n:zU)(h:qav n≠1):qaw n=n:=by
 unfold qav at h;unfold qaw;split
 ·rfl
 ·next q=>
  simp only[not_or]at q;rw[if_neg q.1,if_neg q.2.1,if_neg q.2.2.1,if_neg q.2.2.2]at h;exact absurd rfl h
theorem qvv(n:zU):qca (qav n)=false:=by
 unfold qav
 repeat' split
 all_goals decide
theorem zbu(n:zU)(m:Int)(a r:zU)(f:Int):(Sp.mk m n a [] r f).read=0:=by
 have key:∀k,qbr [] (qcr n) k=0:=by
  intro k
  induction k with
  |zero=>rfl
  |succ k ih=>unfold qbr;rw[ih];simp[qgb]
 exact key _
theorem q32(n:zU)(t:zU)(h:qaw t=n):Par (qad n) (if qav t=1 then Sp.start else⟨qav t,t,[],[],[],0⟩):=by
 subst h;unfold qad;rw[ql0];by_cases h:qav t=1
 ·rw[if_pos h,if_pos h]
  exact qqm
 ·rw[if_neg h,if_neg h,qos t h]
  have y:=qvv t;refine⟨rfl,fun q=>?_,fun q=>?_,fun q q'=>qos t h,fun _=>rfl,fun _=>zbu _ _ _ _ _,fun q=>by rw[y]at q;cases q⟩
  all_goals
   exfalso;simp only at q
   revert q
   unfold qav
   repeat' split
   all_goals decide
theorem q1v(css:Bool)(left:Int)(b:UInt8)(y:left≠1)(z:b≠92):qcp css left b≠1:=by
 unfold qcp;rw[if_neg y]
 repeat' split
 all_goals first|omega|exact absurd ‹_› z
theorem qoq(css:Bool)(left:Int)(y:left≠1):qcp css left 92=1:=by
 unfold qcp;rw[if_neg y,if_neg (fun h=>absurd h.2 (by decide)),if_pos rfl]
theorem qvn(css:Bool)(b:UInt8):qcp css 1 b≠1:=by
 unfold qcp;rw[if_pos rfl]
 repeat' split
 all_goals decide
theorem qg4(css:Bool)(run:zU)(b:UInt8):qdz css (run++[b])=qcp css (qdz css run) b:=by simp[qdz]
theorem q23(m:Int)(run:zU)(h:qca m=true):decide (qdz (qbg m) (kept m run)=1)=decide (qdz (qbg m) run=1):=by
 unfold kept;rw[if_pos h];by_cases q:qdz (qbg m) run=0
 ·rw[if_pos q,q];rfl
 ·rw[if_neg q]
theorem qxs:∀m:Nat,m<=33->qa2.getD m false=qca (m:Int):=by decide
theorem q28(m:Nat)(y:m<=33)(h:qca (m:Int)=true):19<=m:=by
 have:∀m:Nat,m<=33->qca (m:Int)=true->19<=m:=by decide
 exact this m y h
theorem zd8(s:St)(t:Nat)(b:UInt8)(h:t≠34):(s.led1 t b).mode=t/\(s.led1 t b).elem=s.elem/\(s.led1 t b).read=s.read/\(s.led1 t b).esc=s.esc/\(t=3\/t=5->(s.led1 t b).name=qc8 s.name b):=by
 unfold St.led1;by_cases c3:t=3
 ·rw[if_pos c3];exact⟨rfl,rfl,rfl,rfl,fun _=>rfl⟩
 rw[if_neg c3];by_cases c5:t=5
 ·rw[if_pos c5];exact⟨rfl,rfl,rfl,rfl,fun _=>rfl⟩
 rw[if_neg c5];have no:¬(t=3\/t=5):=by omega
 by_cases c4:t=4\/t=10
 ·rw[if_pos c4];exact⟨rfl,rfl,rfl,rfl,fun q=>absurd q no⟩
 rw[if_neg c4,if_neg h];exact⟨rfl,rfl,rfl,rfl,fun q=>absurd q no⟩
theorem zcf(s:St)(t:Nat)(b:UInt8)(h:t≠34):(s.led t b).mode=t/\(s.led t b).elem=(if t≠s.mode/\s.mode=3 then qaw s.name else s.elem)/\(s.led t b).read=s.read/\(s.led t b).esc=s.esc/\(t=3\/t=5->(s.led t b).name=qc8 (if t=s.mode then s.name else[]) b):=by
 unfold St.led;by_cases q:t=s.mode
 ·rw[if_pos q,if_pos q,if_neg (fun z=>z.1 q)]
  exact zd8 s t b h
 ·rw[if_neg q,if_neg q]
  obtain⟨a,c,d,e,f⟩:=zd8 s.named t b h;refine⟨a,c.trans ?_,d,e,f⟩;unfold St.named;by_cases w:s.mode=3
  ·have:t≠s.mode/\s.mode=3:=⟨q,w⟩
   rw[if_pos this,if_pos w]
  ·have:¬(t≠s.mode/\s.mode=3):=fun z=>w z.2
   rw[if_neg this,if_neg w]
theorem qu9(m:Nat)(n e:zU)(k:Int)(rd:Nat)(p:Sp)(b:UInt8)(hs:(St.mk m n e k rd false).Ok)(hp:Par (St.mk m n e k rd false) p)(r t:Nat)(PR:zU)(PF:Int)
  (X:r=m->PR=p.run) (hb:qca (m:Int)=true->b≠92)
  (I:qr3 m b=true) (hr:qbx m b=r) (ht:qdg m b=t)
  (hT:tgt r b=t\/(tgt r b=-1/\t=34/\r=m)) :
  Par ((St.mk r n e k rd false).led t b) ((Sp.mk r p.tag p.attr p.inside PR PF).step1 r b):=by
 unfold qr3 at I;simp only[yL,yN,yU]at I;rw[hr,ht]at I;obtain⟨⟨⟨⟨⟨⟨⟨⟨⟨⟨r1,r2⟩,t1⟩,t2⟩,hf⟩,Y⟩,Z⟩,h3⟩,h5⟩,h4⟩,Hb⟩:=I;have g1:=hs.name;have g2:=hs.named;have g3:=hs.bare;have g4:=hs.low;have ghi:=hs.hi;have e3:=hp.tagName;have e5:=hp.attrName;have e4:=hp.inTag;have e19:=hp.tag;have erd:=hp.read;have ees:=hp.esc;simp only at g1 g2 g3 g4 ghi e3 e5 e4 e19 erd ees;have hc:(m<19↔(t<19\/t=34))/\(m<19↔r<19):=by
  by_cases hm:m<19
  ·rw[if_pos hm]at hf
   simp only[yL,yU,yN]at hf;omega
  ·rw[if_neg hm]at hf
   simp only[yL,yN]at hf;omega
 clear hf;unfold Sp.step1;simp only;rcases hT with hT|⟨hT,O,T⟩
 ·have c34:t≠34:=by
   intro c34;have:=qp0 r b r2;rw[hT]at this;subst c34;rcases this with q|q|⟨k,q,q'⟩<;>omega
  rw[hT,if_neg (by omega)];obtain⟨fm,fe,fr,fx,fn⟩:=zcf (St.mk r n e k rd false) t b c34;simp only at fe fr fx fn;generalize (St.mk r n e k rd false).led t b=S at fm fe fr fx fn;have U:t=3\/t=5\/t=4\/(6<=t/\t<=10)->r=m:=by
   intro q;rcases Y with z|z
   ·rcases z with z | z
    ·exact z
    ·exfalso
     have:∀c∈(0::named:zU),tgt 1 c=1\/tgt 1 c=2:=by decide
     have h1:=this _ (ql1 b);rw[<-qnc 1 (by omega) b]at h1;rw[z.2]at hT;omega
   ·omega
  refine⟨?_,fun q=>?_,fun q=>?_,fun q q'=>?_,fun q=>?_,fun q=>?_,fun q=>?_⟩
  ·rw[fm]
  ·rw[fm]at q
   have D:=U (.inl q);rw[if_pos q]at h3;simp only[yU,yN]at h3;rw[fn (.inl q)];show(Sp.named ⟨(r:Int),p.tag,p.attr,p.inside,PR,PF⟩ r b t).tag=_;unfold Sp.named;rw[if_neg (by omega),if_pos (by omega)];show(if r=2 then[small b]else qfx (p.tag++[small b]))=qc8 (if t=r then n else[]) b;rcases h3 with z|z
   ·rw[if_pos (by omega),if_neg (by omega)];rfl
   ·rw[if_neg (by omega),if_pos (by omega)]
    rw[e3 z,qm0 _ _ g1]
  ·rw[fm]at q
   have D:=U (.inr (.inl q));rw[fn (.inr q)];show(Sp.named ⟨(r:Int),p.tag,p.attr,p.inside,PR,PF⟩ r b t).attr=_;unfold Sp.named;rw[if_neg (by omega),if_neg (by omega),if_pos (by omega)];show(if r=5 then qfx (p.attr++[small b])else[small b])=qc8 (if t=r then n else[]) b;by_cases z:r=5
   ·rw[if_pos z,if_pos (by omega)]
    rw[e5 (by omega),qm0 _ _ g1]
   ·rw[if_neg z,if_neg (by omega)];rfl
  ·rw[fm]at q q'
   rw[fe];have D:=U (by omega);have h4:3<=m/\m<=10:=by
    by_cases z:t=5
    ·rw[if_pos z]at h5
     simp only[yU,yN]at h5;omega
    ·rw[if_pos (by omega)]at h4
     simpa only [yL,yN]using h4
   have V:(Sp.named ⟨(r:Int),p.tag,p.attr,p.inside,PR,PF⟩ r b t).tag=p.tag:=by
    unfold Sp.named;rw[if_neg (by omega),if_neg (by omega)];split
    ·rfl
    ·split
     ·rfl
     ·rw[if_pos (by omega)]
   rw[V];by_cases z:r=3
   ·have y:t≠r/\r=3:=⟨by omega,z⟩
    rw[if_pos y,e3 (by omega)]
   ·have y:¬(t≠r/\r=3):=fun y=>z y.2
    rw[if_neg y];exact e4 (by omega) (by omega)
  ·rw[fm]at q
   have z:¬(t≠r/\r=3):=by omega
   rw[fe,if_neg z];show(Sp.named ⟨(r:Int),p.tag,p.attr,p.inside,PR,PF⟩ r b t).tag=_;unfold Sp.named;rw[if_pos (by omega)];exact e19 (by omega)
  ·rw[fm]at q
   rw[fr];show qbr (Sp.named ⟨(r:Int),p.tag,p.attr,p.inside,PR,PF⟩ r b t).inside (qcr (Sp.named ⟨(r:Int),p.tag,p.attr,p.inside,PR,PF⟩ r b t).tag) (qcr (Sp.named ⟨(r:Int),p.tag,p.attr,p.inside,PR,PF⟩ r b t).tag).length=_;unfold Sp.named;rw[if_pos (by omega)];exact erd (by omega)
  ·rw[fm]at q
   rw[fx,fm];show _=decide (qdz (qbg t) (if _ then _ else _)=1);by_cases c:(t:Int)=r/\runs t=true
   ·rw[if_pos c,q23 _ _ q,qg4]
    have J:t=r:=by omega
    have D:r=m:=by
     by_cases y:r=m
     ·exact y
     ·exfalso
      have ha:r=qhm m:=by
       unfold qbx at hr;split at hr
       ·exact hr.symm
       ·exact absurd hr.symm y
      have:∀m:Nat,m<=33->qca (qhm m:Nat)=false:=by decide
      rw[J,ha,this m ghi]at q;cases q
    have Ha:=ees (by rw[<-D,<-J];exact q);rw[eq_comm,yO];refine q1v _ _ _ ?_ (hb (by rw[<-D,<-J];exact q));rw[X D,J,D];simpa using Ha.symm
   ·rw[if_neg c]
    rfl
 ·subst O T
  rw[hT,if_pos rfl];have hm:=Z;simp only[if_true,yL,yN]at hm;have hl:(St.mk r n e k rd false).led 34 b=qad (if r=3 then qaw n else e):=by
   unfold St.led;have z:¬ 34=(St.mk r n e k rd false).mode:=by show ¬ 34=r;omega
   rw[if_neg z];rfl
  rw[hl];refine q32 _ _ ?_;split
  ·next c=>rw[e3 c]
  ·next c=>exact e4 (by omega) (by omega)
theorem qp4(m:Nat)(n e:zU)(k:Int)(rd:Nat)(p:Sp)(b:UInt8)(D:(St.mk m n e k rd false).Ok)(I:Par (St.mk m n e k rd false) p)(PR:zU)(PF:Int)(PM:Int)(J:PM=m)(z:PR=p.run)(O:qca (m:Int)=true->b≠92) :
  Par ((St.mk m n e k rd false).table b) ((Sp.mk PM p.tag p.attr p.inside PR PF).step m b):=by
 subst J;rw[qo8];have T:=D.lo;have U:=D.hi;simp only at T U;have V:=qm8 m T U b;have y:=qqa m T U b;unfold qv6 at V;unfold Sp.step;by_cases c2:tgt m b=-2
 ·rw[if_pos c2]at V |-
  simp only[yL,yN]at V;obtain⟨⟨a1,a2⟩,a3⟩:=V;have ne:qa8 m≠m:=by
   intro q;have:=qkf m b;rw[q]at this;exact this c2
  exact qu9 m n e k rd p b D I (qa8 m) (qdg m b) [] PF (fun q=>absurd q ne) O y a1 rfl (.inl a2.symm) |> fun h=>by rw[a1];exact h
 ·rw[if_neg c2]at V |-
  by_cases c1:tgt m b=-1
  ·rw[if_pos c1]at V
   simp only[yL,yN]at V;rw[V.1.1.1];exact qu9 m n e k rd p b D I m (qdg m b) PR PF (fun _=>z) O y V.1.1.1 rfl (.inr ⟨c1,V.1.1.2,rfl⟩)
  ·rw[if_neg c1]at V
   simp only[yL,yN]at V;rw[V.1];exact qu9 m n e k rd p b D I m (qdg m b) PR PF (fun _=>z) O y V.1 rfl (.inl V.2.symm)
theorem qty(m:Nat)(y:m<=33)(h:qca (m:Int)=true):tgt m 92=m:=by
 have:∀m:Nat,m<=33->qca (m:Int)=true->tgt m 92=m:=by decide
 exact this m y h
theorem zb7(s:St)(p:Sp)(b:UInt8)(hs:s.Ok)(hp:Par s p):Par (s.behind b) (p.next b):=by
 obtain⟨m,n,e,k,rd,x⟩:=s;have h1:=hs.lo;have h2:=hs.hi;have z:=hs.calm;have D:=hp.mode;simp only at h1 h2 z D;unfold Sp.next;rw[D,Int.toNat_natCast];by_cases hm:19<=m
 ·rw[if_pos hm]
  have V:=hp.tag hm;have X:=hp.read hm;simp only at V X;have y:∀PR PF,(Sp.mk m p.tag p.attr (qce (p.inside++[b])) PR PF).read=(St.mk m n e k rd x).readEnd b:=by
   intro PR PF;show qbr (qce (p.inside++[b])) (qcr p.tag) (qcr p.tag).length=_;rw[V,qqg _ _ _ hs.elem];have hr:qbr p.inside (qcr e) (qcr e).length=rd:=by
    have:p.read=qbr p.inside (qcr e) (qcr e).length:=by unfold Sp.read;rw[V]
    rw[<-this];exact X
   rw[hr];rfl
  have Y:(St.mk m n e k ((St.mk m n e k rd x).readEnd b) x).Ok:=
   ⟨h1,h2,hs.name,hs.named,hs.elem,hs.bare,fun hh=>by simp only at hh;omega,hs.calm,qkm _ b,hs.wrap,hs.high⟩
  have O:∀PF,Par (St.mk m n e k ((St.mk m n e k rd x).readEnd b) x) (Sp.mk m p.tag p.attr (qce (p.inside++[b])) p.run PF):=fun PF=>
   ⟨rfl,hp.tagName,hp.attrName,hp.inTag,hp.tag,fun _=>y _ _,hp.esc⟩
  unfold Sp.element St.behind;rw[if_pos hm];have I:(St.mk m n e k rd x).ends b=true↔(p.read=(qcr p.tag).length/\among b qdl=true):=by
   unfold St.ends;rw[yL,yN,X,V];rfl
  by_cases ce:p.read=(qcr p.tag).length/\among b qdl=true
  ·rw[if_pos ce,if_pos (I.2 ce)]
   unfold qc3;by_cases c62:b=62
   ·rw[if_pos c62,if_pos c62];exact qqm
   ·rw[if_neg c62,if_neg c62]
    refine⟨rfl,fun h=>(by simp at h),fun h=>(by simp at h),fun h h'=>(by simp at h'),fun h=>(by simp at h),fun h=>(by simp at h),fun h=>(by revert h;decide)⟩
  ·rw[if_neg ce,if_neg (fun h=>ce (I.1 h))]
   have T:=qxs m h2;generalize Z:(St.mk m n e k rd x).readEnd b=rd' at *;show Par ((St.mk m n e k rd' x).quiet b) _;unfold St.quiet;simp only;rw[T];by_cases cs:qca (m:Int)=true
   ·have J:=hp.esc cs
    simp only at J;by_cases c1:qdz (qbg m) p.run=1
    ·have w:qca (m:Int)=true/\qdz (qbg m) p.run=1:=⟨cs,c1⟩
     rw[if_pos w];have hx:x=true:=by rw[J,c1];rfl
     subst hx;rw[cs];show Par (St.mk m n e k rd' false) _;refine⟨rfl,hp.tagName,hp.attrName,hp.inTag,hp.tag,fun _=>y _ _,fun _=>?_⟩;show false=_;rw[eq_comm,yO,qg4,c1];exact qvn _ _
    ·have w:¬(qca (m:Int)=true/\qdz (qbg m) p.run=1):=fun h=>c1 h.2
     have w19:¬m=19:=by intro h;subst h;revert cs;decide
     rw[if_neg w,if_neg w19];have hx:x=false:=by rw[J];exact yx c1
     subst hx;by_cases cb:b=92
     ·subst cb
      rw[cs];show Par (St.mk m n e k rd' true) _;unfold Sp.step Sp.step1;rw[qty m h2 cs,if_neg (by omega),if_neg (by omega)];have Ha:Sp.named ⟨(m:Int),p.tag,p.attr,qce (p.inside++[92]),p.run,p.far⟩ m 92 (m:Int)=⟨0,p.tag,[],qce (p.inside++[92]),[],0⟩:=by
       unfold Sp.named;rw[if_pos (by omega)]
      rw[Ha];have U:(m:Int)=(m:Int)/\runs (m:Int)=true:=⟨rfl,by unfold runs;rw[cs];simp⟩;rw[if_pos U];refine⟨rfl,fun q=>?_,fun q=>?_,fun q q'=>?_,hp.tag,fun _=>y [] 0,fun _=>?_⟩
      ·simp only at q;omega
      ·simp only at q;omega
      ·simp only at q';omega
      ·show true=_
       rw[q23 _ _ cs,qg4,qoq _ _ c1];rfl
     ·have w2:¬(qca (m:Int) && (false || b==92))=true:=by rw[cs];simpa using cb
      rw[if_neg w2];exact qp4 m n e k rd' ⟨m,p.tag,p.attr,qce (p.inside++[b]),p.run,p.far⟩ b Y (O _) _ _ _ rfl rfl (fun _=>cb)
   ·have cs':=ye.2 cs
    have w:¬(qca (m:Int)=true/\qdz (qbg m) p.run=1):=fun h=>cs h.1;have w2:¬(qca (m:Int) && (x || b==92))=true:=by rw[cs'];simp
    rw[if_neg w,if_neg w2];have hx:x=false:=z (by rw[T];exact cs');subst hx;by_cases w19:m=19
    ·subst w19
     rw[if_pos rfl];have ha:=qm8 19 (by omega) (by omega) b;have ht:tgt 19 b=19:=rfl;unfold qv6 at ha;rw[ht,if_neg (by omega),if_neg (by omega)]at ha;simp only[yL,yN]at ha;rw[qo8];show Par ((St.mk (qbx 19 b) n e k rd' false).led (qdg 19 b) b) _;rw[ha.1,show qdg 19 b=19 by omega];exact⟨rfl,hp.tagName,hp.attrName,hp.inTag,hp.tag,fun _=>y [] 0,fun h=>by replace h:qca 19=true:=h;cases h⟩
    ·rw[if_neg w19]
     exact qp4 m n e k rd' ⟨m,p.tag,p.attr,qce (p.inside++[b]),p.run,p.far⟩ b Y (O _) _ _ _ rfl rfl (fun h=>absurd h cs)
 ·rw[if_neg hm]
  unfold St.behind;rw[if_neg hm];unfold St.quiet;have he:qa2.getD m false=false:=q9v m (by omega);have hx:x=false:=z he;subst hx;have w2:¬(qa2.getD m false && (false || b==92))=true:=by rw[he];simp
  show Par (if(qa2.getD m false && (false || b==92))=true then _ else _) _;rw[if_neg w2];exact qp4 m n e k rd p b hs hp p.run p.far p.mode D rfl (fun h=>by have:=q28 m h2 h;omega)
def qei(p:Sp)(l:zU):Sp:=l.foldl Sp.next p
def St.nowRead(s:St)(b:UInt8):Nat:=if 19<=s.mode then s.readEnd b else s.read
theorem q3x(x:Sx)(b:UInt8)(y:19<=x.st.mode)(z:x.st.ends b=true):x.behind b=⟨⟨qc3 b,[],[],0,0,false⟩,Mk.none⟩:=by
 have D:x.st.behind b=⟨qc3 b,[],[],0,0,false⟩:=by unfold St.behind;rw[if_pos y,if_pos z]
 have I:qe8 x.st x.ma b=Mk.none:=by unfold qe8;rw[if_pos ⟨y,z⟩]
 show Sx.mk (x.st.behind b) (qe8 x.st x.ma b)=_;rw[D,I]
theorem q3w(x:Sx)(b:UInt8)(y:¬(19<=x.st.mode/\x.st.ends b=true)):x.behind b=⟨(St.mk x.st.mode x.st.name x.st.elem x.st.kind (x.st.nowRead b) x.st.esc).quiet b,qls x.st x.ma b⟩:=by
 have z:x.st.behind b=(St.mk x.st.mode x.st.name x.st.elem x.st.kind (x.st.nowRead b) x.st.esc).quiet b:=by
  unfold St.behind St.nowRead;by_cases D:19<=x.st.mode
  ·rw[if_pos D,if_pos D,if_neg (fun q=>y ⟨D,q⟩)]
  ·rw[if_neg D,if_neg D]
 have I:qe8 x.st x.ma b=qls x.st x.ma b:=by unfold qe8;rw[if_neg y]
 show Sx.mk (x.st.behind b) (qe8 x.st x.ma b)=_;rw[z,I]
theorem qy7(x:Sx)(b:UInt8)(y:¬(19<=x.st.mode/\x.st.ends b=true))(z:(qa2.getD x.st.mode false && (x.st.esc || b==92))=true) :
  x.behind b=⟨⟨x.st.mode,x.st.name,x.st.elem,x.st.kind,x.st.nowRead b,!x.st.esc⟩,qa7 x.st.mode x.st.esc b⟩:=by
 rw[q3w x b y];unfold St.quiet qls;simp only;rw[z,if_pos rfl,if_pos rfl]
theorem qrn(x:Sx)(b:UInt8)(r t:Nat)(y:¬(19<=x.st.mode/\x.st.ends b=true))(z:(qa2.getD x.st.mode false && (x.st.esc || b==92))=false)(D:qbx x.st.mode b=r)(I:qdg x.st.mode b=t) :
  x.behind b=Sx.led ⟨⟨r,x.st.name,x.st.elem,x.st.kind,x.st.nowRead b,x.st.esc⟩,x.ma⟩ t b:=by
 rw[q3w x b y];unfold St.quiet qls;simp only;rw[z,if_neg (by simp),if_neg (by simp),qo8];simp only;rw[D,I];rfl
theorem at_a(m:Nat)(b:UInt8)(y:¬qc6 m b=0):qbx m b=m/\qdg m b=or3 (qc6 m b) (qe1.getD m 0) m:=by
 have h:qbx m b=m:=by unfold qbx;rw[if_neg (fun q=>y q.1)]
 unfold qdg;rw[h];exact⟨rfl,rfl⟩
theorem at_b(m:Nat)(b:UInt8)(y:qc6 m b=0)(z:qek.getD m 0=0):qbx m b=m/\qdg m b=or3 0 (qe1.getD m 0) m:=by
 have h:qbx m b=m:=by unfold qbx;rw[if_neg (fun q=>q.2 z)]
 unfold qdg;rw[h,y];exact⟨rfl,rfl⟩
theorem at_c(m R:Nat)(b:UInt8)(y:qc6 m b=0)(z:qek.getD m 0=R)(D:R≠0):qbx m b=R/\qdg m b=or3 (qc6 R b) (qe1.getD R 0) R:=by
 have h:qbx m b=R:=by unfold qbx qhm;rw[if_pos ⟨y,by rw[z];exact D⟩,z]
 unfold qdg;rw[h];exact⟨rfl,rfl⟩
structure MkOk(k:Mk):Prop where
 hex:0<=k.hex/\k.hex<=5
 pct:0<=k.pct/\k.pct<=2
theorem qjw:MkOk Mk.none:=⟨by decide,by decide⟩
theorem q3l(n:Int)(b:UInt8)(m:Int)(h:n<=m)(y:0<=m):0<=qds n b/\qds n b<=m:=by
 unfold qds;split
 ·next q=>omega
 ·omega
theorem q0c(kind:Int)(m:Nat)(k:Mk)(b:UInt8)(h:MkOk k):MkOk (qch kind m k b):=by
 have y:=h.hex;have z:=h.pct;have f1:=q3l k.hex b 5 y.2 (by omega);have f2:=q3l k.pct b 2 z.2 (by omega);refine⟨f1,?_⟩;show 0<=(if _ then _ else _:Int)/\(if _ then _ else _:Int)<=2;split
 ·split
  ·omega
  ·exact f2
 ·omega
theorem qop(m:Nat)(e:Bool)(b:UInt8):MkOk (qa7 m e b):=by
 unfold qa7;split
 ·exact qjw
 ·split
  ·next r y=>
   have z:=List.mem_of_find?_eq_some y;have:∀r∈qfd,0<=r.2.2.2/\r.2.2.2<=5:=by decide
   exact⟨this r z,by show(0:Int)<=0/\(0:Int)<=2;omega⟩
  ·exact qjw
theorem zcg(s:St)(k:Mk)(t:Nat)(b:UInt8)(h:MkOk k):MkOk (qms s k t b):=by
 unfold qms;split
 ·exact q0c _ _ _ _ h
 ·exact qjw
theorem q2e(s:St)(k:Mk)(b:UInt8)(h:MkOk k):MkOk (qe8 s k b):=by
 unfold qe8;split
 ·exact qjw
 ·unfold qls
  split
  ·exact qop _ _ _
  ·exact zcg _ _ _ _ h
structure SxOk(x:Sx):Prop where
 st:x.st.Ok
 ma:MkOk x.ma
theorem qkj:SxOk Sx.start:=⟨zbm,qjw⟩
theorem qlk{x:Sx}(b:UInt8)(h:SxOk x):SxOk (x.behind b):=⟨qy9 b h.st,q2e _ _ b h.ma⟩
theorem qwn(l:zU):∀x:Sx,SxOk x->SxOk (qax x l):=by
 induction l with
 |nil=>intro x h;exact h
 |cons b l ih=>intro x h;exact ih _ (qlk b h)
end Pl
end Go.Proofs.YtfkhljmiehdgmaaGreatDoor
