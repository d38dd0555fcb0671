/-
  Steps of the proof.
-/
import Derived.Maps.AppendAt
import Derived.Deep.RegionLaw
import Derived.Test.YtfkhljmiehdgmaaGreatDoorCuAA
import Derived.Lib.MapLaws
import Derived.Lib.TrimUEq
import Derived.Lib.TrimU
import Derived.Lib.Bytealg
import Derived.ScopeJumps
import Derived.WalkMore
import Derived.Lib.BufferWrite
import Derived.OwnWalk
import Derived.Lib.ItoaNum
import Derived.Lib.Small
import Derived.Lib.IndexMore
import Derived.Lib.IndexLaws
import Derived.OrdersHeld
import Derived.OrdersIn
import Derived.TacticsIn
import Derived.RangeFuncCalls
import Derived.Lib.TrimAscii
import Derived.Lib.RuneCount
import Derived.Lib.RuneBytes
import Derived.Lib.FieldsP
import Derived.Lib.SpaceUEq
import Derived.ProofKit
import Derived.OpenShut
import Derived.Lib.LaidTab
set_option maxRecDepth 100000
set_option maxHeartbeats 40000000
namespace Go.Proofs.YtfkhljmiehdgmaaGreatDoor
open Go.RowKit Go.Proofs.Tryz Pl
variable{w w' w0:World}{B n k g:Nat}{v vp vo vp':Value}{xs:List Value}{c:Ct}
def qc4(p:Pt):List Value:=[zI p.kind,zI p.pos,bs p.text,zI p.mate]
def qbp(L:List Pt):List Value:=L.flatMap qc4
theorem q0x(L:List Pt):(qbp L).length=L.length*4:=by
 induction L with
 |nil=>rfl
 |cons p L ih=>show(qbp L).length+4=_;rw[ih,yK];omega
theorem qw3(L:List Pt)(p:Pt):qbp (L++[p])=qbp L++qc4 p:=by simp[qbp]
theorem qeq:∀(L:List Pt) (k:Nat) (p:Pt),L[k]?=some p->∀(j:Nat) (v:Value),(qc4 p)[j]?=some v->(qbp L)[k*4+j]?=some v
 |[],k,p,e=>by simp at e
 |q::L,0,p,e=>by
   simp only[yS,Option.some.injEq]at e;subst e;intro j v hv;show(qc4 q++qbp L)[0*4+j]?=some v;rw[Nat.zero_mul,xg,yr (yb.1 hv).1];exact hv
 |q::L,k+1,p,e=>by
   intro j v hv;have:=qeq L k p (by simpa using e) j v hv;show(qc4 q++qbp L)[(k+1)*4+j]?=some v;rw[yt (by simp[qc4];omega)];have e:(k+1)*4+j - (qc4 q).length=k*4+j:=by simp[qc4];omega
   rw[e];exact this
theorem qoh:∀(L:List Pt) (m n:Nat),m<L.length->(qbp L).set (m*4+3) (zI n)=qbp (qbd L m n)
 |[],m,n,h=>by simp at h
 |q::L,0,n,_=>rfl
 |q::L,m+1,n,h=>by
   have ih:=qoh L m n (by simpa using h);have e:qbd (q::L) (m+1) n=q::qbd L m n:=by simp[qbd]
   rw[e];show(qc4 q++qbp L).set ((m+1)*4+3) _=qc4 q++qbp (qbd L m n);rw[List.set_append_right _ _ (by simp[qc4];omega)];have e2:(m+1)*4+3 - (qc4 q).length=m*4+3:=by simp[qc4];omega
   rw[e2,ih]
def qb0(L:List Nat):List Value:=L.map fun(n:Nat)=>Value.int .i64 (n:Int)
theorem qab{e:TypeId}(h:w.ownsRow B e k v n xs)(hb:∀g,v.ownBlock=some g->w'.heap[g]?=w.heap[g]?):w'.ownsRow B e k v n xs:=by
 refine⟨h.1,?_⟩;rcases h.2 with h0|⟨g,cap,cur,hv,ha,hg,rest⟩
 ·exact .inl h0
 ·exact .inr ⟨g,cap,cur,hv,ha,(hb g (by rw[hv];rfl)).trans hg,rest⟩
theorem qac{e:TypeId}(h:w.ownsRow B e k v n xs)(g:Nat)(hg:v.ownBlock=some g):∃cur,w.heap[g]?=zK cur e:=by
 rcases h.2 with⟨rfl,_⟩|⟨g',cap,cur,rfl,_,hh,_⟩
 ·simp[Value.ownBlock]at hg
 ·simp[Value.ownBlock]at hg
  subst hg;exact⟨cur,hh⟩
theorem qai{e:TypeId}(h:w.ownsRow B e k v n xs)(hn:0<n):∃g cap,v=zF g n cap/\B<=g/\g<w.heap.size:=by
 rcases h.2 with⟨_,h0⟩|⟨g,cap,cur,hv,ha,hg,rest⟩
 ·omega
 ·exact⟨g,cap,hv,ha,(ya.1 hg).1⟩
theorem qjt{e:TypeId}{cap:Nat}(h:w.ownsRow B e k (zF g n cap) n xs)(m:Nat)(hm:m<=n):w.ownsRow B e k (zF g m cap) m (xs.take (m*k)):=by
 have ha:m*k<=n*k:=xF k hm;refine⟨by rw[yP,h.1];omega,?_⟩;rcases h.2 with⟨h0,_⟩|⟨g',cap',cur,hv,Ha,hg,h1,h2,h3,h4⟩
 ·cases h0
 ·injection hv with e1 e2 e3
  injection e1 with e1;injection e1 with e1;subst e1 e3;exact .inr ⟨g,cap,cur,rfl,Ha,hg,by omega,h2,h3,by rw[<-h4,List.take_take,Nat.min_eq_left ha]⟩
structure CtAt(w:World)(B g:Nat)(t:zU)(c:Ct)(vp vo:Value):Prop where
 blk:w.heap[g]?=zK #[bs t,bs c.op,bs c.cl,vp,vo] 222
 parts:w.ownsRow B 229 4 vp c.parts.length (qbp c.parts)
 opened:w.ownsRow B 3 1 vo c.opened.length (qb0 c.opened)
 le:B<=g
structure Cur(B g:Nat)(w w':World):Prop where
 below:Below B w w'
 keep:∀k cs t fz,w.heap[k]?=some (.cells cs t fz)->k≠g->t≠229->t≠3->w'.heap[k]?=w.heap[k]?
theorem Cur.refl(B g:Nat)(w:World):Cur B g w w:=⟨xM _ _,fun _ _ _ _ _ _ _ _=>rfl⟩
theorem Cur.trans{a b c:World}(h:Cur B g a b)(k:Cur B g b c):Cur B g a c:=
 ⟨h.below.trans k.below,fun i cs t fz hi h1 h2 h3=>(k.keep i cs t fz ((h.keep i cs t fz hi h1 h2 h3).trans hi) h1 h2 h3).trans (h.keep i cs t fz hi h1 h2 h3)⟩
theorem Cur.of_below(h:zW w w')(hB:B<=w.heap.size):Cur B g w w':=
 ⟨h.mono hB,fun k _ _ _ hk _ _ _=>h.block k (ya.1 hk).1⟩
theorem CtAt.lt{t:zU}(h:CtAt w B g t c vp vo):g<w.heap.size:=(zL h.blk)
theorem CtAt.kept{t:zU}(h:CtAt w B g t c vp vo)(hb:∀k,k<w.heap.size->w'.heap[k]?=w.heap[k]?):CtAt w' B g t c vp vo:=
 ⟨(hb g h.lt).trans h.blk,qab h.parts fun k hk=>hb k (h.parts.lt k hk).2,qab h.opened fun k hk=>hb k (h.opened.lt k hk).2,h.le⟩
theorem CtAt.below{t:zU}(h:CtAt w B g t c vp vo)(hb:zW w w'):CtAt w' B g t c vp vo:=h.kept hb.block
theorem CtAt.alloc{t:zU}(h:CtAt w B g t c vp vo)(o:Obj):CtAt (w.alloc o) B g t c vp vo:=h.kept fun _ hk=>xJ w o hk
theorem CtAt.cell{t:zU}(h:CtAt w B g t c vp vo):∀(j:Nat) (v:Value),[bs t,bs c.op,bs c.cl,vp,vo][j]?=some v->w.cell? (zO g j)=some v:=fun j v hv=>qaa h.blk j v hv
theorem CtAt.thaw{t:zU}(h:CtAt w B g t c vp vo)(j:Nat):w.frozen? (zO g j)=false:=by simp[World.frozen?,h.blk]
theorem qf0:(222:TypeId)≠229:=by decide
theorem qic:(222:TypeId)≠3:=by decide
theorem qli:(229:TypeId)≠3:=by decide
theorem qae{l:Nat}{cs cs':Array Value}{t t':TypeId}{fz fz':Nat×Nat}(h:w.heap[k]?=some (.cells cs t fz))(h':w.heap[l]?=some (.cells cs' t' fz'))(ha:t≠t'):k≠l:=by
 rintro rfl;rw[h]at h';simp only[Option.some.injEq,Obj.cells.injEq]at h';exact ha h'.2.1
theorem CtAt.more{t:zU}(h:CtAt w B g t c vp vo)(p:Pt)(hb:w'.ownsRow B 229 4 vp' (c.parts.length+1) (qbp c.parts++qc4 p))(ha:w.grownBy w' vp.ownBlock) :
  CtAt (w'.setCell (zO g 3) vp') B g t { c with parts:=c.parts++[p] } vp' vo/\Cur B g w (w'.setCell (zO g 3) vp'):=by
 have Hc:∀k,vp.ownBlock=some k->g≠k:=fun k hk=>by
  obtain⟨cur,hc⟩:=qac h.parts k hk;exact qae h.blk hc qf0
 have he:∀k l,vo.ownBlock=some k->vp.ownBlock=some l->k≠l:=fun k l hk hl=>by
  obtain⟨cur,hc⟩:=qac h.opened k hk;obtain⟨cur',He⟩:=qac h.parts l hl;exact fun e=>qae He hc qli e.symm
 have Hb:w'.heap[g]?=zK #[bs t,bs c.op,bs c.cl,vp,vo] 222:=(ha.block g h.lt (fun e=>Hc g e.symm rfl)).trans h.blk;have Ha:∀k,k≠g->(w'.setCell (zO g 3) vp').heap[k]?=w'.heap[k]?:=fun k hk=>xL _ _ _ _ hk;have hf:∀k,vp'.ownBlock=some k->k≠g:=fun k hk=>by
  obtain⟨cur,hc⟩:=qac hb k hk;exact fun e=>qae Hb hc qf0 e.symm
 refine⟨⟨?_,?_,?_,h.le⟩,⟨?_,?_⟩⟩
 ·rw[xH _ _ _ _ _ _ Hb];rfl
 ·have e:({ c with parts:=c.parts++[p] }:Ct).parts.length=c.parts.length+1:=by simp
  rw[e];show World.ownsRow _ _ _ _ _ _ (qbp (c.parts++[p]));rw[qw3];exact qab hb fun k hk=>Ha k (hf k hk)
 ·refine qab h.opened fun k hk=>?_
  have Hf:=(h.opened.lt k hk).2;obtain⟨cur,hc⟩:=qac h.opened k hk;refine(Ha k (fun e=>qae h.blk hc qic e.symm)).trans (ha.block k Hf (fun e=>he k k hk e.symm rfl))
 ·refine Below.trans ⟨ha.os,ha.tape,ha.output,ha.size,fun k hk=>ha.block k (by have:=h.lt;have:=h.le;omega) (fun e=>by have:=(h.parts.lt k e.symm).1;omega)⟩ ((xM _ _).setCell (p:=zO g 3) h.le _)
 ·intro k cs ty fz hk h1 h2 h3
  refine(Ha k h1).trans (ha.block k (ya.1 hk).1 (fun e=>?_));obtain⟨cur,hc⟩:=qac h.parts k e.symm;exact qae hk hc h2 rfl
theorem CtAt.push{t:zU}{vo':Value}(h:CtAt w B g t c vp vo)(n:Nat)(hb:w'.ownsRow B 3 1 vo' (c.opened.length+1) (qb0 c.opened++[zI n]))(ha:w.grownBy w' vo.ownBlock) :
  CtAt (w'.setCell (zO g 4) vo') B g t { c with opened:=c.opened++[n] } vp vo'/\Cur B g w (w'.setCell (zO g 4) vo'):=by
 have Hc:∀k,vo.ownBlock=some k->g≠k:=fun k hk=>by
  obtain⟨cur,hc⟩:=qac h.opened k hk;exact qae h.blk hc qic
 have he:∀k l,vp.ownBlock=some k->vo.ownBlock=some l->k≠l:=fun k l hk hl=>by
  obtain⟨cur,hc⟩:=qac h.parts k hk;obtain⟨cur',He⟩:=qac h.opened l hl;exact qae hc He qli
 have Hb:w'.heap[g]?=zK #[bs t,bs c.op,bs c.cl,vp,vo] 222:=(ha.block g h.lt (fun e=>Hc g e.symm rfl)).trans h.blk;have Ha:∀k,k≠g->(w'.setCell (zO g 4) vo').heap[k]?=w'.heap[k]?:=fun k hk=>xL _ _ _ _ hk;have hf:∀k,vo'.ownBlock=some k->k≠g:=fun k hk=>by
  obtain⟨cur,hc⟩:=qac hb k hk;exact fun e=>qae Hb hc qic e.symm
 refine⟨⟨?_,?_,?_,h.le⟩,⟨?_,?_⟩⟩
 ·rw[xH _ _ _ _ _ _ Hb];rfl
 ·refine qab h.parts fun k hk=>?_
  have Hf:=(h.parts.lt k hk).2;obtain⟨cur,hc⟩:=qac h.parts k hk;refine(Ha k (fun e=>qae h.blk hc qf0 e.symm)).trans (ha.block k Hf (fun e=>he k k hk e.symm rfl))
 ·have e:({ c with opened:=c.opened++[n] }:Ct).opened.length=c.opened.length+1:=by simp
  rw[e];have e2:qb0 ({ c with opened:=c.opened++[n] }:Ct).opened=qb0 c.opened++[zI n]:=by simp[qb0]
  rw[e2];exact qab hb fun k hk=>Ha k (hf k hk)
 ·refine Below.trans ⟨ha.os,ha.tape,ha.output,ha.size,fun k hk=>ha.block k (by have:=h.lt;have:=h.le;omega) (fun e=>by have:=(h.opened.lt k e.symm).1;omega)⟩ ((xM _ _).setCell (p:=zO g 4) h.le _)
 ·intro k cs ty fz hk h1 h2 h3
  refine(Ha k h1).trans (ha.block k (ya.1 hk).1 (fun e=>?_));obtain⟨cur,hc⟩:=qac h.opened k e.symm;exact qae hk hc h3 rfl
structure CtTo(w w':World)(B g:Nat)(t:zU)(c:Ct):Prop where
 ex:∃vp vo,CtAt w' B g t c vp vo
 cur:Cur B g w w'
theorem qcn(w:World)(cs:List Value)(t:TypeId):∀(j:Nat) (u:Value),cs[j]?=some u->(w.alloc (.cells cs.toArray t)).cell? (((zO w.heap.size 0):Addr).add j)=some u:=by
 intro j u hj;have:((zO w.heap.size 0):Addr).add j=(zO w.heap.size j):=by simp only[Addr.add,xg];split<;>simp_all
 rw[this];exact qaa (xG w _) j u (by simpa using hj)
theorem CtAt.ahead{t:zU}(h:CtAt w B g t c vp vo)(Ha:zW w w0){row:Option Nat}(ha:row=vp.ownBlock\/row=vo.ownBlock)(Hb:w0.grownBy w' row)(j:Nat)(v:Value)(hv:[bs t,bs c.op,bs c.cl,vp,vo][j]?=some v):w'.cell? (zO g j)=some v/\w'.frozen? (zO g j)=false:=by
 have Hc:some g≠row:=by
  rintro rfl;rcases ha with e|e
  ·obtain⟨cur,hc⟩:=qac h.parts g e.symm
   exact qae h.blk hc qf0 rfl
  ·obtain⟨cur,hc⟩:=qac h.opened g e.symm
   exact qae h.blk hc qic rfl
 have hb:w'.heap[g]?=zK #[bs t,bs c.op,bs c.cl,vp,vo] 222:=(Hb.block g (yi h.lt Ha.size) Hc).trans ((Ha.block g h.lt).trans h.blk);exact⟨qaa hb j v hv,by simp[World.frozen?,hb]⟩
theorem CtAt.moreTo{t:zU}(h:CtAt w B g t c vp vo)(Ha:zW w w0)(p:Pt)(ha:w'.ownsRow B 229 4 vp' (c.parts.length+1) (qbp c.parts++qc4 p))(hb:w0.grownBy w' vp.ownBlock) :
  CtTo w (w'.setCell (zO g 3) vp') B g t { c with parts:=c.parts++[p] }:=by
 obtain⟨h1,h2⟩:=(h.below Ha).more p ha hb;exact⟨⟨_,_,h1⟩,(Cur.of_below Ha (yh h.le (yj h.lt))).trans h2⟩
theorem qa6{P:Program}{ops:Array Oper}{o:Oper}{a:Act}{K:Act->World->Prop}{Q:Exit->Act->World->Prop}{E:Prop}
  (hg:o.guard=none) (s x:Operand) (t:TypeId) (Hc:o.op=Op.call { callee:=Callee.builtin Builtin.append,args:=#[s,x],argTypes:=#[t,t] })
  (base:Nat) (e:TypeId) (i:TypeInfo) (z:Value) (size bytes:Nat) (ht:P.underlying t=some (.slice e)) (hi:P.info? e=some i) (hz:i.zero=some z)
  (Ha:i.size=size) (he:i.bytes=bytes) (He:z.cells.size=size) (hf:0<size)
  (v:Value) (n:Nat) (xs:List Value) (hs:a.eval s=v) (hc:w.ownsRow base e size v n xs)
  (ad:Addr) (m c:Nat) (news:List Value) (hx:a.eval x=.slice (some ad) m c) (hl:news.length=m*size) (hb:∀j u,news[j]?=some u->w.cell? (ad.add j)=some u) (h1:∀u∈news,u.oneCell'=true)
  (Hf:n+m<=maxLen) (ha:(n+m)*bytes<=140737488355328) (Hb:base<=w.heap.size)
  (hK:∀v' w',w'.ownsRow base e size v' (n+m) (xs++news)->w.grownBy w' v.ownBlock->(v'.ownBlock=v.ownBlock\/v'.ownBlock=some w.heap.size)->K (a.put o.dst v') w') :
  if Region.wanted o (yielded ops a.tmps)=true then Oper.wp P o a w K Q else E:=by
 have hw:Region.wanted o (yielded ops a.tmps)=true:=by simp[Region.wanted,hg]
 rw[if_pos hw];obtain⟨v',w',hr,h2,h3,h4,h5⟩:=run_append_own_at (P:=P) w base t o.type e i z size bytes ht hi hz Ha he He hf v n xs hc ad m c news hl hb h1 Hf ha Hb;unfold Oper.wp;simp[execOp,Hc,resolve,invoke,builtin,hs,hx,hr,Result.andThen];exact hK v' w' h2 h3 h5
namespace Pl
def qp3(b:UInt8):zU:=
 bif (b.toNat:Int)==38 then[38,97,109,112,59]else bif (b.toNat:Int)==60 then[38,108,116,59]else bif (b.toNat:Int)==62 then[38,103,116,59]else bif (b.toNat:Int)==34 then[38,113,117,111,116,59]else bif (b.toNat:Int)==39 then[38,35,51,57,59]else[b]
def qjh(l:zU):zU:=l.flatMap qp3
def two(b:UInt8)(all:zU):zU:=[all.getD (b.toNat / 16) 0,all.getD (b.toNat % 16) 0]
def q67:zU:=[48,49,50,51,52,53,54,55,56,57,65,66,67,68,69,70]
def qgh:zU:=[48,49,50,51,52,53,54,55,56,57,97,98,99,100,101,102]
def qgv:zU:=[97,98,99,100,101,102,103,104,105,106,107,108,109,110,111,112,113,114,115,116,117,118,119,120,121,122,65,66,67,68,69,70,71,72,73,74,75,76,77,78,79,80,81,82,83,84,85,86,87,88,89,90,48,49,50,51,52,53,54,55,56,57,45,46,95,126,47,63,35,91,93,64,33,36,40,41,42,43,44,59,61]
def qon(b:UInt8):zU:=bif among b qgv then[b]else 37::two b q67
def qjy(l:zU):zU:=l.flatMap qon
def qfc(l:zU):zU:=l.map small
def qme(h:zU):zU:=bif ((h.getD 0 0).toNat:Int)==48 then h.drop 1 else h
def qp7(b:UInt8):zU:=bif odd b then 92::(qme (two b qgh)++[32])else[b]
def qwo(l:zU):zU:=l.flatMap qp7
def qf1:Nat->zU->zU
 |0,_=>[]
 |_+1,[]=>[]
 |n+1,b::l=>
   if(odd b || ((b.toNat:Int)==96))=true then[92,120]++two b qgh++qf1 n l
   else if(b::l).take 3=[226,128,168]then[92,117,50,48,50,56]++qf1 n (l.drop 2)
   else if(b::l).take 3=[226,128,169]then[92,117,50,48,50,57]++qf1 n (l.drop 2)
   else[b]++qf1 n l
def qep(l:zU):zU:=qf1 l.length l
theorem zhq(x l:zU):(ByteArray.mk x.toArray++ByteArray.mk l.toArray:zT)=⟨(x++l).toArray⟩:=by
 apply xj;simp
theorem qhe{f:UInt8->zU}(m:Nat)(hf:∀b,(f b).length<=m)(l:zU):(l.flatMap f).length<=m*l.length:=by
 induction l with
 |nil=>simp
 |cons b l ih=>
   have:=hf b;simp only[List.flatMap_cons,yJ,yK];rw[Nat.mul_add];omega
theorem qkx{m:Nat}{c:Bool}{x y:zU}(hx:x.length<=m)(hy:y.length<=m):(bif c then x else y).length<=m:=by
 cases c<;>assumption
theorem q4c(b:UInt8):(qp3 b).length<=6:=by
 unfold qp3
 repeat' apply qkx
 all_goals simp
theorem qnq(b:UInt8):(qon b).length<=6:=by
 unfold qon
 repeat' apply qkx
 all_goals simp[two]
theorem qz9(b:UInt8):(qp7 b).length<=6:=by
 have:(qme (two b qgh)).length<=2:=by
  unfold qme;apply qkx<;>simp[two]
 unfold qp7;apply qkx
 ·simp;omega
 ·simp
def qjz:zU:=[97,98,99,100,101,102,103,104,105,106,107,108,109,110,111,112,113,114,115,116,117,118,119,120,121,122,65,66,67,68,69,70,71,72,73,74,75,76,77,78,79,80,81,82,83,84,85,86,87,88,89,90]
def qes:zU:=[48,49,50,51,52,53,54,55,56,57,43,45,46]
def run(l:zU):Bool->Nat
 |later=>match l with
   |[]=>0
   |b::r=>if among b qjz || (later && among b qes)then run r true+1 else 0
def qb2(l:zU):Nat:=if run l false=0 then 0 else if l[run l false]?=some 58 then run l false+1 else 0
theorem q5p{b:UInt8}(h:among b qgv=true):qon b=[b]:=by simp[qon,h]
theorem q81{b:UInt8}(h:among b qgv=false):qon b=[37]++two b q67:=by simp[qon,h]
theorem zd0(b:UInt8)(all:zT)(h1:b.toNat / 16<all.size)(h2:b.toNat % 16<all.size):two b all.data.toList=[all[b.toNat / 16],all[b.toNat % 16]]:=by
 have e:∀i (h:i<all.size),all.data.toList.getD i 0=all[i]:=by
  intro i h;rw[xy,yc (by simpa using h)];rfl
 unfold two;rw[e _ h1,e _ h2]
theorem q2m(s:zT)(k:Nat)(hk:k<=s.size):(s.data.toList.take k).length=k:=by
 have:s.data.size=s.size:=rfl;simp;omega
theorem qj6(s:zT)(k:Nat)(h:k<s.size):s.data.toList.drop k=s[k]::s.data.toList.drop (k+1):=by
 rw[yo (by simpa using h)];rfl
theorem qvt(s:zT)(k:Nat)(h:¬k<s.size):s.data.toList.drop k=[]:=by
 have:s.data.size=s.size:=rfl;simp;omega
theorem zeb(s:zT)(k:Nat)(h:k<s.size):s.data.toList[k]?=some s[k]:=by
 rw[yc (by simpa using h)];rfl
theorem zf0(s:zT)(k:Nat)(h:¬k<s.size):s.data.toList[k]?=none:=by
 have:s.data.size=s.size:=rfl;rw[yd (by simp;omega)]
theorem q4w(s:zT)(k:Nat)(h:k<s.size)(p:Bool)(hc:among s[k] qjz=true):run (s.data.toList.drop k) p=run (s.data.toList.drop (k+1)) true+1:=by
 rw[qj6 s k h];simp[run,hc]
theorem qwx(s:zT)(k:Nat)(h:k<s.size)(hc:among s[k] qes=true):run (s.data.toList.drop k) true=run (s.data.toList.drop (k+1)) true+1:=by
 rw[qj6 s k h];simp[run,hc]
theorem q74(s:zT)(k:Nat)(h:k<s.size)(hc:among s[k] qjz=false):run (s.data.toList.drop k) false=0:=by
 rw[qj6 s k h];simp[run,hc]
theorem q2s(s:zT)(k:Nat)(h:k<s.size)(p:Bool)(hc:among s[k] qjz=false)(hd:among s[k] qes=false):run (s.data.toList.drop k) p=0:=by
 rw[qj6 s k h];simp[run,hc,hd]
theorem zbq(s:zT)(k:Nat)(h:¬k<s.size)(p:Bool):run (s.data.toList.drop k) p=0:=by
 rw[qvt s k h];rfl
theorem qwt(l:zU)(h:run l false=0):qb2 l=0:=by simp[qb2,h]
theorem qwu(s:zT)(k:Nat)(h:run s.data.toList false=k)(hk:¬k<s.size):qb2 s.data.toList=0:=by
 simp[qb2,h,zf0 s k hk]
theorem q0i(s:zT)(k:Nat)(h:run s.data.toList false=k)(h0:0<k)(hk:k<s.size)(hc:s[k].toNat=58):qb2 s.data.toList=k+1:=by
 have e:s[k]=58:=UInt8.toNat_inj.1 (by simpa using hc);simp[qb2,h,zeb s k hk,e];omega
theorem q4s(s:zT)(k:Nat)(h:run s.data.toList false=k)(hk:k<s.size)(hc:¬s[k].toNat=58):qb2 s.data.toList=0:=by
 have e:¬s[k]=58:=fun e=>hc (by rw[e];rfl);simp[qb2,h,zeb s k hk,e]
theorem qhv:∀(n:Nat) (l:zU),l.length<=n->qf1 n l=qf1 l.length l
 |0,[],_=>rfl
 |n+1,[],_=>rfl
 |n+1,b::l,h=>by
   simp only[yK]at h;have h1:=qhv n l (by omega);have h2:=qhv n (l.drop 2) (by simp;omega);have h3:=qhv l.length (l.drop 2) (by simp);simp only[qf1,yK,h1,h2,h3]
theorem qiu(b:UInt8)(l:zU):qep (b::l)=if(odd b || ((b.toNat:Int)==96))=true then[92,120]++two b qgh++qep l
  else if(b::l).take 3=[226,128,168]then[92,117,50,48,50,56]++qep (l.drop 2)
  else if(b::l).take 3=[226,128,169]then[92,117,50,48,50,57]++qep (l.drop 2)
  else[b]++qep l:=by
 have h3:=qhv l.length (l.drop 2) (by simp);unfold qep;simp only[qf1,yK,h3]
theorem qlq:∀(n:Nat) (l:zU),(qf1 n l).length<=6*n
 |0,_=>by simp[qf1]
 |n+1,[]=>by simp[qf1]
 |n+1,b::l=>by
   have h1:=qlq n l;have h2:=qlq n (l.drop 2);simp only[qf1]
   repeat' split
   all_goals simp only[yJ,yK,yQ,two]
   all_goals omega
theorem qws(l:zU):(qep l).length<=6*l.length:=qlq _ l
end Pl
namespace Pl
open Go.Lib (decodeL decodeN)
def bad(l:zU):Bool:=decide ((decodeL l).1=65533) && decide ((decodeL l).2=1)
def qen(l:zU):Nat:=if l=[]then 0 else if bad l then 0 else(decodeL l).2
theorem decodeL_N(l:zU):decodeL l=decodeN l.length (l.getD 0 0).toNat (l.getD 1 0).toNat (l.getD 2 0).toNat (l.getD 3 0).toNat:=by
 have:=Lib.decode_N ⟨l.toArray⟩ 0;simpa [decodeL]using this
theorem q84(s:zT):s.data.toList.length=s.size:=rfl
theorem q6j(l:zU):qen l<=l.length:=by
 unfold qen;by_cases h:l=[]
 ·rw[if_pos h];omega
 rw[if_neg h];split
 ·omega
 ·exact Lib.decodeL_le l h
def qjf:Nat->zU->zU
 |0,_=>[]
 |n+1,l=>if l=[]then[]else if qen l=0\/l[0]?=some 0 then[239,191,189]++qjf n (l.drop 1)else l.take (qen l)++qjf n (l.drop (qen l))
def qd3(l:zU):zU:=qjf l.length l
theorem qf5:∀(n:Nat) (l:zU),l.length<=n->qjf n l=qjf l.length l
 |0,l,h=>by
   have:l=[]:=by simpa using h
   subst this;rfl
 |n+1,[],_=>rfl
 |n+1,b::l,h=>by
   simp only[yK]at h;have h1:=qf5 n ((b::l).drop 1) (by simp;omega);have h2:=qf5 l.length ((b::l).drop 1) (by simp);by_cases c:qen (b::l)=0
   ·simp only[qjf,yK,h1,h2,c,true_or,if_true]
   ·have h3:=qf5 n ((b::l).drop (qen (b::l))) (by simp;omega)
    have h4:=qf5 l.length ((b::l).drop (qen (b::l))) (by simp;omega);simp only[qjf,yK,h1,h2,h3,h4]
theorem zak:qd3 []=[]:=rfl
theorem qy1(l:zU)(ha:l≠[])(h:qen l=0\/l[0]?=some 0):qd3 l=[239,191,189]++qd3 (l.drop 1):=by
 match l,ha with
 |b::l,_=>
   unfold qd3;rw[yK,qjf,if_neg (by simp),if_pos h,qf5 l.length _ (by simp)]
theorem q6i(l:zU)(ha:l≠[])(h:¬(qen l=0\/l[0]?=some 0)):qd3 l=l.take (qen l)++qd3 (l.drop (qen l)):=by
 match l,ha with
 |b::l,_=>
   unfold qd3;rw[yK,qjf,if_neg (by simp),if_neg h,qf5 l.length _ (by simp;omega)]
theorem qy0(l:zU):(qd3 l).length<=3*l.length:=by
 unfold qd3;have:∀n l,(qjf n l).length<=3*l.length:=by
  intro n
  induction n with
  |zero=>intro l;simp[qjf]
  |succ n ih=>
    intro l;rw[qjf];split
    ·simp
    rename_i ha;have hp:0<l.length:=List.length_pos_iff.2 ha;split
    ·have:=ih (l.drop 1)
     simp only[yJ,yK,yQ,yM]at this |-;omega
    ·have:=ih (l.drop (qen l))
     have hc:=q6j l;simp only[yJ,yP,yM]at this |-;omega
 exact this _ l
end Pl
namespace Pl
def qv3:zU:=[35,98,108,111,99,107,101,100]
def http:zU:=[104,116,116,112,58]
def zhd:zU:=[104,116,116,112,115,58]
def zd6:zU:=[109,97,105,108,116,111,58]
def qf3(l:zU):zU:=
 if 0<qb2 l/\qfc (l.take (qb2 l))≠http/\qfc (l.take (qb2 l))≠zhd/\qfc (l.take (qb2 l))≠zd6 then qv3
 else l.take (qb2 l)++qjy (l.drop (qb2 l))
def qgn(kd:Int)(l:zU):zU:=
 if kd=1 then qjh (qd3 l)else if kd=3 then qjy (qd3 l)else if kd=2 then qf3 (qd3 l)else if kd=4 then qep (qd3 l)else if kd=5 then qwo (qd3 l)else[]
def qor(kd:Int):Int:=if 1<=kd/\kd<=5 then 0 else 1
theorem qso(l:zU):qb2 l<=l.length:=by
 unfold qb2;split
 ·omega
 split
 ·rename_i h
  have:=(yb.1 h).1;omega
 ·omega
theorem qtq(l:zU)(n:Nat)(h:l.length<=n):(qd3 l).length<=3*n:=by
 have:=qy0 l;omega
theorem qui(l:zU)(n:Nat):(ByteArray.mk l.toArray).extract 0 n=⟨(l.take n).toArray⟩:=by
 apply xj;apply Array.toList_inj.1;rw[ByteArray.data_extract,Array.toList_extract,xB];simp
theorem zdc(l:zU)(n:Nat):(ByteArray.mk l.toArray).extract n l.length=⟨(l.drop n).toArray⟩:=by
 apply xj;apply Array.toList_inj.1;rw[ByteArray.data_extract,Array.toList_extract,xB];show(l.drop n).take _=_;apply yp;rw[yM];omega
theorem qrs(p:UInt8->Bool)(h:(List.range 256).all (fun n=>p (UInt8.ofNat n))=true)(b:UInt8):p b=true:=by
 have:=yX.1 h b.toNat (xh.2 (UInt8.toNat_lt b));simpa using this
theorem qxk(b:UInt8):qbl b=among b qjz:=by
 have:=qrs (fun b=>qbl b==among b qjz) (by decide +kernel) b;simpa using this
theorem qvu(b:UInt8):(qea b || among b [43,45,46])=among b qes:=by
 have:=qrs (fun b=>(qea b || among b [43,45,46])==among b qes) (by decide +kernel) b;simpa using this
theorem qvd(b:UInt8):(qbl b || (qea b || among b [45,46,95,126,47,63,35,91,93,64,33,36,40,41,42,43,44,59,61]))=among b qgv:=by
 have:=qrs (fun b=>(qbl b || (qea b || among b [45,46,95,126,47,63,35,91,93,64,33,36,40,41,42,43,44,59,61]))==among b qgv) (by decide +kernel) b;simpa using this
theorem qer:∀(l:zU) (b:UInt8),(0<=Lib.indexByte l b/\among b l=true)\/(Lib.indexByte l b=-1/\among b l=false)
 |[],_=>.inr ⟨rfl,rfl⟩
 |c::l,b=>by
   have ih:=qer l b;unfold Lib.indexByte;by_cases h:(c==b)=true
   ·left;rw[if_pos h];exact⟨by omega,by simp[among,h]⟩
   ·have hf:(c==b)=false:=by simpa using h
    rw[if_neg h];rcases ih with⟨a,e⟩|⟨a,e⟩
    ·left
     have:(Lib.indexByte l b==-1)=false:=by simp;omega
     rw[if_neg (by rw[this];simp)];exact⟨by omega,by simp only[among,List.any_cons,hf,Bool.false_or]at e |-;exact e⟩
    ·right
     rw[if_pos (by rw[a];rfl)];exact⟨rfl,by simp only[among,List.any_cons,hf,Bool.false_or]at e |-;exact e⟩
theorem qhs(b:UInt8):((b.toNat:Int).toNat.toUInt8)=b:=by simp
def qej(l:zU):Int:=if qb2 l=0 then -1 else(qb2 l:Int) - 1
theorem qf7(l:zU)(h:qb2 l=0):qej l=-1:=by simp[qej,h]
theorem qk8(l:zU)(k:Nat)(h:qb2 l=k+1):qej l=k:=by simp[qej,h]
end Pl
variable{w:World}{g B:Nat}{P:Program}{a:Act}
def qfu(w:World)(g:Nat):Prop:=∃cs t,w.heap[g]?=zK cs t/\cs.size=6
theorem qfu.lt(h:qfu w g):g<w.heap.size:=by
 obtain⟨cs,t,h,_⟩:=h;exact(ya.1 h).1
theorem qfu.kept{w':World}(h:qfu w g)(hb:Below B w w')(hB:g<B):qfu w' g:=by
 obtain⟨cs,t,h,hs⟩:=h;exact⟨cs,t,(hb.block g hB).trans h,hs⟩
theorem qfu.alloc(h:qfu w g)(o:Obj):qfu (w.alloc o) g:=h.kept ((xM _ w).alloc (yg _) o) h.lt
theorem qfu.drew(h:qfu w g):qfu w.drew g:=h
theorem qp9(w:World)(g:Nat)(cs:Array Value)(t:TypeId)(hg:w.heap.size=g)(hs:cs.size=6):qfu (w.alloc (.cells cs t)) g:=by
 subst hg;exact⟨cs,t,xG w _,hs⟩
theorem qfu.cell(h:qfu w g)(j:Nat)(hj:j<6):∃v,w.cell? (zO g j)=some v:=by
 obtain⟨cs,t,h,hs⟩:=h;exact⟨cs[j],by rw[cell_of_row w g j cs t _ h,Array.getElem?_eq_getElem (by omega)]⟩
theorem qfu.thaw(h:qfu w g)(j:Nat):w.frozen? (zO g j)=false:=by
 obtain⟨cs,t,h,hs⟩:=h;simp[World.frozen?,h]
def set6(w:World)(g:Nat)(v0 v1 v2 v3 v4 v5:Value):World:=(((((w.setCell (zO g 0) v0).setCell (zO g 1) v1).setCell (zO g 2) v2).setCell (zO g 3) v3).setCell (zO g 4) v4).setCell (zO g 5) v5
theorem qky(h:qfu w g)(v0 v1 v2 v3 v4 v5:Value):∀(j:Nat) (v:Value),(#[v0,v1,v2,v3,v4,v5]:Array Value).toList[j]?=some v->(set6 w g v0 v1 v2 v3 v4 v5).cell? (zO g j)=some v:=by
 intro j v hv
 match j,hv with
 |0,hv=>
   obtain⟨u,hu⟩:=h.cell 0 (by omega);obtain rfl:v0=v:=by simpa using hv
   exact(xN _ _ _ _ (by simp)).trans ((xN _ _ _ _ (by simp)).trans ((xN _ _ _ _ (by simp)).trans ((xN _ _ _ _ (by simp)).trans ((xN _ _ _ _ (by simp)).trans (xO _ _ _ (u:=u) (hu))))))
 |1,hv=>
   obtain⟨u,hu⟩:=h.cell 1 (by omega);obtain rfl:v1=v:=by simpa using hv
   exact(xN _ _ _ _ (by simp)).trans ((xN _ _ _ _ (by simp)).trans ((xN _ _ _ _ (by simp)).trans ((xN _ _ _ _ (by simp)).trans (xO _ _ _ (u:=u) ((xN _ _ _ _ (by simp)).trans (hu))))))
 |2,hv=>
   obtain⟨u,hu⟩:=h.cell 2 (by omega);obtain rfl:v2=v:=by simpa using hv
   exact(xN _ _ _ _ (by simp)).trans ((xN _ _ _ _ (by simp)).trans ((xN _ _ _ _ (by simp)).trans (xO _ _ _ (u:=u) ((xN _ _ _ _ (by simp)).trans ((xN _ _ _ _ (by simp)).trans (hu))))))
 |3,hv=>
   obtain⟨u,hu⟩:=h.cell 3 (by omega);obtain rfl:v3=v:=by simpa using hv
   exact(xN _ _ _ _ (by simp)).trans ((xN _ _ _ _ (by simp)).trans (xO _ _ _ (u:=u) ((xN _ _ _ _ (by simp)).trans ((xN _ _ _ _ (by simp)).trans ((xN _ _ _ _ (by simp)).trans (hu))))))
 |4,hv=>
   obtain⟨u,hu⟩:=h.cell 4 (by omega);obtain rfl:v4=v:=by simpa using hv
   exact(xN _ _ _ _ (by simp)).trans (xO _ _ _ (u:=u) ((xN _ _ _ _ (by simp)).trans ((xN _ _ _ _ (by simp)).trans ((xN _ _ _ _ (by simp)).trans ((xN _ _ _ _ (by simp)).trans (hu))))))
 |5,hv=>
   obtain⟨u,hu⟩:=h.cell 5 (by omega);obtain rfl:v5=v:=by simpa using hv
   exact xO _ _ _ (u:=u) ((xN _ _ _ _ (by simp)).trans ((xN _ _ _ _ (by simp)).trans ((xN _ _ _ _ (by simp)).trans ((xN _ _ _ _ (by simp)).trans ((xN _ _ _ _ (by simp)).trans (hu))))))
 |j+6,hv=>simp at hv
theorem qb9{a:World}(h:Below B a w)(hg:B<=g)(v0 v1 v2 v3 v4 v5:Value):Below B a (set6 w g v0 v1 v2 v3 v4 v5):=
 (((((h.setCell (p:=zO g 0) hg v0).setCell (p:=zO g 1) hg v1).setCell (p:=zO g 2) hg v2).setCell (p:=zO g 3) hg v3).setCell (p:=zO g 4) hg v4).setCell (p:=zO g 5) hg v5
theorem qfs{fn:Func}{R:Ending->World->Prop}{p:Tmp}{ty:TypeId}(h:fn.results=#[.cell p ty])(g:Nat)(d:TypeDesc)(hu:P.underlying ty=some d)(hd:aggD d=true)(hi:(P.info? ty).map (·.size)=some 6)
  (hp:a.tmps.getD p undef=zP g) (hs:qfu w g) (ha:a.defers=[]) (v0 v1 v2 v3 v4 v5:Value) (hR:R (.returned (.agg #[v0,v1,v2,v3,v4,v5])) (set6 w g v0 v1 v2 v3 v4 v5)):bodyPost P fn R .ret a (set6 w g v0 v1 v2 v3 v4 v5):=
 bodyPost_ret (qbn h a.tmps _ g _ d hp (qky hs v0 v1 v2 v3 v4 v5) hu hd hi) ha hR
theorem qt6{Q:Exit->Act->World->Prop}{c rest:Code}(l:Nat)(hf:findLabel c l=some rest)
  (first:c.wp P (Exit.jump l (fun a' w'=>rest.wp P (Exit.noGoto Q) a' w') Q) a w):(Code.scope c).wp P Q a w:=by
 refine wp_scope_jumps l (fun a' w'=>rest.wp P (Exit.noGoto Q) a' w') (fun _ _=>0) hf first ?_
 intro a' w' hJ b k cs;obtain⟨e,a₁,w₁,hq,ha⟩:=hJ b k cs;refine⟨e,a₁,w₁,?_,ha⟩;cases e with
 |goto l'=>exact hq.elim
 |normal=>exact hq
 |exit id=>exact hq
 |ret=>exact hq
 |panic ch=>exact hq
 |outgrown=>exact hq
variable{w:World}{g:Nat}
theorem qfu.set(h:qfu w g)(p:Addr)(v:Value):qfu (w.setCell p v) g:=by
 obtain⟨cs,t,h,hs⟩:=h;by_cases hg:g=p.block
 ·subst hg
  refine⟨if p.spot.isSome then cs else cs.setIfInBounds p.off v,t,?_,?_⟩
  ·simp only[World.setCell,Array.getElem?_modify,↓reduceIte,h,Option.map_some]
  ·split<;>simp[hs]
 ·exact⟨cs,t,(xL w p v g hg).trans h,hs⟩
theorem q3d:(prog.info? 3).map (fun i=>(i.zero,i.size,i.bytes))=some (some (zI 0),1,8):=by kernel_rfl
theorem q4q(h:qfu w g)(v0 v1 v2 v3 v4 v5:Value):qfu (set6 w g v0 v1 v2 v3 v4 v5) g:=(((((h.set _ _).set _ _).set _ _).set _ _).set _ _).set _ _
variable{n g B:Nat}{w a:World}{P:Program}{fn:Func}{p:Tmp}
def qet(n:Nat)(w:World)(g:Nat):Prop:=∃cs t,w.heap[g]?=zK cs t/\cs.size=n
theorem qet.lt(h:qet n w g):g<w.heap.size:=by
 obtain⟨cs,t,h,_⟩:=h;exact(ya.1 h).1
theorem qet.kept{w':World}(h:qet n w g)(hb:Below B w w')(hB:g<B):qet n w' g:=by
 obtain⟨cs,t,h,hs⟩:=h;exact⟨cs,t,(hb.block g hB).trans h,hs⟩
theorem qet.alloc(h:qet n w g)(o:Obj):qet n (w.alloc o) g:=h.kept ((xM _ w).alloc (yg _) o) h.lt
theorem qet.drew(h:qet n w g):qet n w.drew g:=h
theorem q7v(n:Nat)(w:World)(g:Nat)(cs:Array Value)(t:TypeId)(hg:w.heap.size=g)(hs:cs.size=n):qet n (w.alloc (.cells cs t)) g:=by
 subst hg;exact⟨cs,t,xG w _,hs⟩
theorem qet.cell(h:qet n w g)(j:Nat)(hj:j<n):∃v,w.cell? (zO g j)=some v:=by
 obtain⟨cs,t,h,hs⟩:=h;exact⟨cs[j],by rw[cell_of_row w g j cs t _ h,Array.getElem?_eq_getElem (by omega)]⟩
theorem qet.thaw(h:qet n w g)(j:Nat):w.frozen? (zO g j)=false:=by
 obtain⟨cs,t,h,hs⟩:=h;simp[World.frozen?,h]
theorem qet.set(h:qet n w g)(p:Addr)(v:Value):qet n (w.setCell p v) g:=by
 obtain⟨cs,t,h,hs⟩:=h;by_cases hg:g=p.block
 ·subst hg
  refine⟨if p.spot.isSome then cs else cs.setIfInBounds p.off v,t,?_,?_⟩
  ·simp only[World.setCell,Array.getElem?_modify,↓reduceIte,h,Option.map_some]
  ·split<;>simp[hs]
 ·exact⟨cs,t,(xL w p v g hg).trans h,hs⟩
theorem qet.cellA(h:qet n w g)(j:Nat)(hj:j<n):∃v,∀o,(w.alloc o).cell? (zO g j)=some v:=by
 obtain⟨v,hv⟩:=h.cell j hj;exact⟨v,fun o=>((xM w.heap.size w).alloc (yg _) o).cell (p:=zO g j) h.lt |>.trans hv⟩
theorem qet.thawA(h:qet n w g)(j:Nat)(o:Obj):(w.alloc o).frozen? (zO g j)=false:=(h.alloc o).thaw j
theorem qap(w:World)(o:Obj)(g:Nat)(h:w.heap.size=g):(w.alloc o).heap[g]?=some o:=by rw[<-h];exact xG w o
theorem zfz(w:World)(a b:Obj):((w.alloc a).alloc b).heap[w.heap.size+1]?=some b:=qap _ _ _ (by simp)
def qg9(w:World)(g:Nat):Nat->List Value->World
 |_,[]=>w
 |k,v::l=>qg9 (w.setCell (zO g k) v) g (k+1) l
theorem qun(g:Nat)(l:List Value):∀(w:World) (k:Nat) (p:Addr),(∀j,k<=j->j<k+l.length->p≠(zO g j))->(qg9 w g k l).cell? p=w.cell? p:=by
 induction l with
 |nil=>intro w k p _;rfl
 |cons v l ih=>
   intro w k p h;show(qg9 (w.setCell (zO g k) v) g (k+1) l).cell? p=_;rw[ih _ _ _ (fun j h1 h2=>h j (by omega) (by simp only[yK];omega))];exact xN _ _ _ _ (Ne.symm (h k (yg _) (by simp)))
theorem qjn(g:Nat)(l:List Value):∀(w:World) (k:Nat),qet n w g->k+l.length<=n->∀(j:Nat) (v:Value),l[j]?=some v->(qg9 w g k l).cell? (zO g (k+j))=some v:=by
 induction l with
 |nil=>intro w k _ _ j v hv;simp at hv
 |cons x l ih=>
   intro w k hs hk j v hv;simp only[yK]at hk;show(qg9 (w.setCell (zO g k) x) g (k+1) l).cell? _=_
   match j,hv with
   |0,hv=>
     obtain rfl:x=v:=by simpa using hv
     rw[qun _ _ _ _ _ (fun j h1 h2 q=>by simp only[Addr.mk.injEq]at q;omega)];obtain⟨u,hu⟩:=hs.cell k (by omega);exact xO _ _ _ (u:=u) hu
   |j+1,hv=>
     have:=ih (w.setCell (zO g k) x) (k+1) (hs.set _ _) (by omega) j v (by simpa using hv);rw[show k+(j+1)=k+1+j by omega];exact this
theorem qi7(g:Nat)(hg:B<=g)(l:List Value):∀(w:World) (k:Nat),Below B a w->Below B a (qg9 w g k l):=by
 induction l with
 |nil=>intro w k h;exact h
 |cons x l ih=>intro w k h;exact ih _ _ (h.setCell (p:=zO g k) hg _)
def set5(w:World)(g:Nat)(v0 v1 v2 v3 v4:Value):World:=((((w.setCell (zO g 0) v0).setCell (zO g 1) v1).setCell (zO g 2) v2).setCell (zO g 3) v3).setCell (zO g 4) v4
theorem q72(w:World)(g:Nat)(v0 v1 v2 v3 v4:Value):set5 w g v0 v1 v2 v3 v4=qg9 w g 0 [v0,v1,v2,v3,v4]:=rfl
theorem q6l(h:qet 5 w g)(v0 v1 v2 v3 v4:Value):∀(j:Nat) (v:Value),(#[v0,v1,v2,v3,v4]:Array Value).toList[j]?=some v->(set5 w g v0 v1 v2 v3 v4).cell? (zO g j)=some v:=by
 intro j v hv;have:=qjn (n:=5) g [v0,v1,v2,v3,v4] w 0 h (by simp) j v hv;rw[xg]at this;rw[q72];exact this
theorem qn5(h:Below B a w)(hg:B<=g)(v0 v1 v2 v3 v4:Value):Below B a (set5 w g v0 v1 v2 v3 v4):=by
 rw[q72];exact qi7 g hg _ _ _ h
theorem qi5{R:Ending->World->Prop}{a:Act}{ty:TypeId}(h:fn.results=#[.cell p ty])(g:Nat)(d:TypeDesc)(hu:P.underlying ty=some d)(hd:aggD d=true)(hi:(P.info? ty).map (·.size)=some 5)
  (hp:a.tmps.getD p undef=zP g) (hs:qet 5 w g) (ha:a.defers=[]) (v0 v1 v2 v3 v4:Value) (hR:R (.returned (.agg #[v0,v1,v2,v3,v4])) (set5 w g v0 v1 v2 v3 v4)):bodyPost P fn R .ret a (set5 w g v0 v1 v2 v3 v4):=
 bodyPost_ret (qbn h a.tmps _ g _ d hp (q6l hs v0 v1 v2 v3 v4) hu hd hi) ha hR
def qdf(w:World)(g:Nat)(v0 v1 v2 v3 v4 v5 v6 v7 v8 v9:Value):World:=(((((((((w.setCell (zO g 0) v0).setCell (zO g 1) v1).setCell (zO g 2) v2).setCell (zO g 3) v3).setCell (zO g 4) v4).setCell (zO g 5) v5).setCell (zO g 6) v6).setCell (zO g 7) v7).setCell (zO g 8) v8).setCell (zO g 9) v9
theorem quo(w:World)(g:Nat)(v0 v1 v2 v3 v4 v5 v6 v7 v8 v9:Value):qdf w g v0 v1 v2 v3 v4 v5 v6 v7 v8 v9=qg9 w g 0 [v0,v1,v2,v3,v4,v5,v6,v7,v8,v9]:=rfl
theorem q2a(h:qet 10 w g)(v0 v1 v2 v3 v4 v5 v6 v7 v8 v9:Value):∀(j:Nat) (v:Value),(#[v0,v1,v2,v3,v4,v5,v6,v7,v8,v9]:Array Value).toList[j]?=some v->(qdf w g v0 v1 v2 v3 v4 v5 v6 v7 v8 v9).cell? (zO g j)=some v:=by
 intro j v hv;have:=qjn (n:=10) g [v0,v1,v2,v3,v4,v5,v6,v7,v8,v9] w 0 h (by simp) j v hv;rw[xg]at this;rw[quo];exact this
theorem qfe(h:Below B a w)(hg:B<=g)(v0 v1 v2 v3 v4 v5 v6 v7 v8 v9:Value):Below B a (qdf w g v0 v1 v2 v3 v4 v5 v6 v7 v8 v9):=by
 rw[quo];exact qi7 g hg _ _ _ h
theorem qle{R:Ending->World->Prop}{a:Act}{ty:TypeId}(h:fn.results=#[.cell p ty])(g:Nat)(d:TypeDesc)(hu:P.underlying ty=some d)(hd:aggD d=true)(hi:(P.info? ty).map (·.size)=some 10)
  (hp:a.tmps.getD p undef=zP g) (hs:qet 10 w g) (ha:a.defers=[]) (v0 v1 v2 v3 v4 v5 v6 v7 v8 v9:Value) (hR:R (.returned (.agg #[v0,v1,v2,v3,v4,v5,v6,v7,v8,v9])) (qdf w g v0 v1 v2 v3 v4 v5 v6 v7 v8 v9)):bodyPost P fn R .ret a (qdf w g v0 v1 v2 v3 v4 v5 v6 v7 v8 v9):=
 bodyPost_ret (qbn h a.tmps _ g _ d hp (q2a hs v0 v1 v2 v3 v4 v5 v6 v7 v8 v9) hu hd hi) ha hR
def setM(w:World)(g:Nat)(v0 v1 v2 v3 v4:Value):World:=((((w.setCell (zO g 5) v0).setCell (zO g 6) v1).setCell (zO g 7) v2).setCell (zO g 8) v3).setCell (zO g 9) v4
namespace Pl
variable{o:Nat}{l:List Pt}
def stk:List Pt->List Nat->List Nat
 |[],st=>st
 |p::l,st=>if p.kind=3\/p.kind=4 then stk l (p.mate::st)else if p.kind=5 then stk l st.tail else stk l st
theorem qf6(p:Pt)(l:List Pt)(st:List Nat):stk (p::l) st=if p.kind=3\/p.kind=4 then stk l (p.mate::st)else if p.kind=5 then stk l st.tail else stk l st:=rfl
theorem qg1(l m:List Pt):∀st,stk (l++m) st=stk m (stk l st):=by
 induction l with
 |nil=>intro st;rfl
 |cons p l ih=>
   intro st;rw[xC,qf6,qf6];split
   ·exact ih _
   ·split
    ·exact ih _
    ·exact ih _
theorem zgp(h:Wf o l):(∀st,stk l st=st)/\∀i,i<=l.length->∀st,∃ex,stk (l.take i) st=ex++st/\(∀m∈ex,o+i<=m/\m<o+l.length)/\∀m tl,ex=m::tl->stk (l.take (m - o)) st=ex++st:=by
 induction h with
 |nil o=>exact⟨fun st=>rfl,fun i hi st=>⟨[],by simp[stk],fun m hm=>(by cases hm),fun m tl e=>(by cases e)⟩⟩
 |leaf o p l hk _ ih=>
   have hs:∀l st,stk (p::l) st=stk l st:=fun l st=>by
    rw[qf6,if_neg (by omega),if_neg (by omega)]
   refine⟨fun st=>by rw[hs];exact ih.1 st,fun i hi st=>?_⟩;cases i with
   |zero=>exact⟨[],rfl,fun m hm=>(by cases hm),fun m tl e=>(by cases e)⟩
   |succ i=>
     obtain⟨ex,h1,h2,h3⟩:=ih.2 i (by simpa using hi) st;refine⟨ex,by rw[xf,hs];exact h1,fun m hm=>?_,fun m tl e=>?_⟩
     ·have:=h2 m hm
      simp only[yK];omega
     ·have hm:=h2 m (by rw[e];simp)
      rw[show m - o=(m - (o+1))+1 by omega,xf,hs];exact h3 m tl e
 |sec o p q b l hp hq hm1 hm2 hb _ ihb ihl=>
   have e:p::b++q::l=p::(b++q::l):=by simp
   have hs:∀l st,stk (p::l) st=stk l (p.mate::st):=fun l st=>by
    rw[qf6,if_pos hp]
   have ha:∀l st,stk (q::l) st=stk l st.tail:=fun l st=>by
    rw[qf6,if_neg (by omega),if_pos hq]
   rw[e];refine⟨fun st=>?_,fun i hi st=>?_⟩
   ·rw[hs,qg1,ihb.1,ha]
    exact ihl.1 st
   ·cases i with
    |zero=>exact⟨[],rfl,fun m hm=>(by cases hm),fun m tl e=>(by cases e)⟩
    |succ j=>
      simp only[yK,yJ]at hi |-;rw[xf,hs];by_cases hj:j<=b.length
      ·rw[xE hj]
       obtain⟨ex,h1,h2,h3⟩:=ihb.2 j hj (p.mate::st);refine⟨ex++[p.mate],by rw[h1];simp,fun m hm=>?_,fun m tl e2=>?_⟩
       ·simp only[yn,yv]at hm
        rcases hm with hm|rfl
        ·have:=h2 m hm;omega
        ·omega
       ·cases ex with
        |nil=>
          simp only[xD,List.cons.injEq]at e2;obtain⟨rfl,_⟩:=e2;rw[show p.mate - o=b.length+1 by omega,xf,hs,List.take_left,ihb.1];simp
        |cons m' tl'=>
          simp only[xC,List.cons.injEq]at e2;obtain⟨rfl,_⟩:=e2;have hm:=h2 m' (by simp);rw[show m' - o=(m' - (o+1))+1 by omega,xf,hs,xE (by omega),h3 m' tl' rfl];simp
      ·obtain⟨t,rfl⟩:∃t,j=b.length+1+t:=⟨j - (b.length+1),by omega⟩
       have ht:(b++q::l).take (b.length+1+t)=b++q::l.take t:=by
        rw[List.take_append];rw[yp (by omega),show b.length+1+t - b.length=t+1 by omega,xf]
       rw[ht,qg1,ihb.1,ha];simp only[List.tail_cons];obtain⟨ex,h1,h2,h3⟩:=ihl.2 t (by omega) st;refine⟨ex,h1,fun m hm=>?_,fun m tl e2=>?_⟩
       ·have:=h2 m hm;omega
       ·have hm:=h2 m (by rw[e2];simp)
        obtain⟨u,hu⟩:∃u,m - o=(b.length+1+u)+1:=⟨m - o - (b.length+2),by omega⟩;have Ha:(b++q::l).take (b.length+1+u)=b++q::l.take u:=by
         rw[List.take_append];rw[yp (by omega),show b.length+1+u - b.length=u+1 by omega,xf]
        rw[hu,xf,hs,Ha,qg1,ihb.1,ha];simp only[List.tail_cons];have:=h3 m tl e2;rw[show m - (o+b.length+2)=u by omega]at this;exact this
theorem ze1(l:List Pt):∀st,(stk l st).length<=l.length+st.length:=by
 induction l with
 |nil=>intro st;simp[stk]
 |cons p l ih=>
   intro st;rw[qf6];split
   ·have:=ih (p.mate::st);simp only[yK]at this |-;omega
   ·split
    ·have:=ih st.tail;rw[List.length_tail]at this;simp only[yK];omega
    ·have:=ih st;simp only[yK];omega
theorem zde(l m:List Pt):∀st,deep (l++m) st.length=true->deep m (stk l st).length=true:=by
 induction l with
 |nil=>intro st h;exact h
 |cons p l ih=>
   intro st h;have h:deep (p::(l++m)) st.length=true:=h;unfold deep at h;rw[qf6];by_cases h3:p.kind=3\/p.kind=4
   ·rw[if_pos h3]at h |-
    exact ih (p.mate::st) (by simpa using h)
   rw[if_neg h3]at h |-;by_cases h5:p.kind=5
   ·rw[if_pos h5]at h |-
    simp only[ne_eq,yL,yN]at h;exact ih st.tail (by simpa using h.2)
   ·rw[if_neg h5]at h |-
    exact ih st h
theorem za0(h:Wf o l):∀(i:Nat) (p:Pt),l[i]?=some p->p.kind=5->p.mate<o+l.length/\o<=p.mate:=by
 induction h with
 |nil o=>intro i p hp;simp at hp
 |leaf o q l hk _ ih=>
   intro i p hp h5;cases i with
   |zero=>simp at hp;subst hp;omega
   |succ i=>
     have:=ih i p (by simpa using hp) h5;simp only[yK];omega
 |sec o q z b l hq hz h1 h2 hb _ ihb ihl=>
   intro i p hp h5;have e:q::b++z::l=q::(b++z::l):=by simp
   rw[e]at hp |-;simp only[yK,yJ];cases i with
   |zero=>simp at hp;subst hp;omega
   |succ i=>
     simp only[yT]at hp;rw[yI]at hp;split at hp
     ·have:=ihb i p hp h5;omega
     ·rename_i hi
      cases hx:i - b.length with
      |zero=>rw[hx]at hp;simp at hp;subst hp;omega
      |succ j=>
        rw[hx]at hp;have:=ihl j p (by simpa using hp) h5;omega
end Pl
theorem q7h:(prog.info? 5).map (fun i=>(i.zero,i.size,i.bytes))=some (some (zJ 0),1,1):=by kernel_rfl
theorem qvx(s:zT)(w:World)(hs:s.size<=100000) :
  zC 103 #[.string s] w (zR (.string s) w):=by
 by_cases h0:s.size=0
 ·obtain rfl:s=⟨#[]⟩:=xj (Array.eq_empty_of_size_eq_zero h0)
  go_enter func103,ntmps103
  go_wp2
  go_ret
  exact⟨rfl,xM _ _⟩
 have c0:¬(s.size:Int)=0:=by omega
 have c1:(0:Int)<(s.size:Int):=by omega
 obtain⟨i0,hi,Hg,He,Hi⟩:=info_parts q7h;obtain⟨W1,Hj,Hb,Ha⟩:=run_makeSlice_full (P:=prog) w w.heap.size 82 5 i0 (zJ 0) 1 underlying82 hi Hg He .i64 .i64 s.size (by omega) (by rw[Hi];omega) (by unfold maxLen;omega) (yg _);obtain⟨cur,ha,hj⟩:∃cur,W1.heap[w.heap.size]?=zK cur 5/\cur.size=s.size:=by
  rcases Hb.2 with⟨q,_⟩|⟨g,cap,cur,hv,_,hg,_,_,hs,_⟩
  ·cases q
  ·injection hv with e1 e2 e3
   injection e1 with e1;injection e1 with e1;subst e1 e3;exact⟨cur,hg,by omega⟩
 have Hc:=fun ty=>Lib.run_copy_row_string (P:=prog) W1 82 9 ty 5 w.heap.size 0 s.size s.size s cur 5 underlying82 (by rw[hi];simp[He]) ha (yg _) (by omega);have hc:(cur.toList.take 0++Lib.byteCells s.data.toList++cur.toList.drop (0+s.size))=Lib.byteCells s.data.toList:=by
  rw[List.take_zero,xD,List.drop_of_length_le (by simp[hj]),yw]
 rw[hc]at Hc;have hb:zW w W1:=⟨Ha.os,Ha.tape,Ha.output,Ha.size,fun k hk=>Ha.block k hk (by simp)⟩;have he:(W1.setRow w.heap.size (Lib.byteCells s.data.toList).toArray).heap[w.heap.size]?=zK ((Lib.byteCells s.data.toList).toArray) 5:=setRow_heap W1 _ _ _ _ _ ha;have hf:zW w (W1.setRow w.heap.size (Lib.byteCells s.data.toList).toArray):=⟨hb.os,hb.tape,hb.output,by simpa using hb.size,fun k hk=>by
  refine Eq.trans ?_ (hb.block k hk);simp only[World.setRow,Array.getElem?_modify];rw[if_neg (by omega)]⟩
 clear ha hc Hb Ha;generalize W1.setRow w.heap.size (Lib.byteCells s.data.toList).toArray=W2 at Hc he hf;have Hf:=fun pt it ty hp=>Lib.run_unsafeString_row (P:=prog) W2 pt it ty 5 hp (by kernel_rfl) w.heap.size s.size (by simp[World.shape?,he,Lib.byteCells]) s.data.toList (fun q=>h0 (by have:=yE List.length q;simpa using this)) (by simp) (by simp;omega) (fun j x hx=>by
  have e:((zO w.heap.size 0):Addr).add j=(zO w.heap.size j):=by simp only[Addr.add,xg];split<;>simp_all
  rw[e];exact qaa he j _ (by simp[Lib.byteCells,hx]))
 have hl:(s.data.toList.length:Int)=(s.size:Int):=by simp
 have hS:(⟨s.data.toList.toArray⟩:zT)=s:=by cases s;simp
 simp only[hl,hS]at Hf;have HB:=zH (Lib.below_freeze hf (p:=zO w.heap.size 0) (yg _) s.data.toList.length);have e1:=Hc 3;have e2:=Hf 209 3 9 underlying209;clear Hc Hf he hb hf hi Hg He Hi hl hS;go_enter func103,ntmps103
 go_wp2
 go_ret
 exact⟨rfl,HB.out⟩
theorem qyz(s:zT)(w:World)(hs:s.size<=100000) :
  zC 73 #[.string s] w (zR (.string s) w):=by
 go_enter func73,ntmps73
 go_wp2_with (go_at_call 103;refine(qvx s _ hs).mono ?_;rintro e w' ⟨rfl,hb⟩)
 go_ret
 exact⟨rfl,hb⟩
namespace Pl
open Go.Lib
structure Dt where
 kind:Int
 n:Int
 s:zU
 items:List Int
 names:List zU
def Dt.null:Dt:=⟨0,0,[],[],[]⟩
abbrev Pc:=Option Nat
def qbe(D:List Dt):Pc->Dt
 |none=>Dt.null
 |some k=>D.getD k Dt.null
def qd2(k:Nat)(n:Int):Pc:=if n<=k then none else some n.toNat
def qlc(name:zU):List zU->List Int->Option Int
 |a::l,i::m=>if a=name then some i else qlc name l m
 |_,_=>none
def qo1(D:List Dt)(p:Pc)(name:zU):Option Pc:=
 match p with
 |none=>none
 |some k=>if(qbe D (some k)).kind≠5 then none else(qlc name (qbe D (some k)).names (qbe D (some k)).items).map (qd2 k)
def qc7(d:Dt):zU:=if d.kind=1 then formatBool (d.n != 0)else if d.kind=2 then itoa d.n else if d.kind=3 then d.s else[]
def qvb(d:Dt):Bool:=if d.kind=1 then d.n==0 else if d.kind=3 then d.s==[]else if d.kind=4 then d.items.length==0 else if d.kind=2\/d.kind=5 then false else true
def qnb(D:List Dt)(p:Pc):List Pc:=
 match p with
 |none=>[none]
 |some k=>if(qbe D (some k)).kind≠4 then[some k]else(qbe D (some k)).items.map (qd2 k)
def qh6(D:List Dt)(name:zU):List Pc->Pc
 |[]=>none
 |p::l=>match qo1 D p name with
   |some q=>q
   |none=>qh6 D name l
def qq7(D:List Dt):Nat->Pc->zU->Bool->Pc
 |0,p,_,_=>p
 |f+1,p,rest,more=>if more=false then p else qq7 D f ((qo1 D p (cut rest [46]).1).getD none) (cut rest [46]).2.1 (cut rest [46]).2.2
def qe3(D:List Dt)(S:List Pc)(name:zU):Pc:=
 if name=[46]then(S.head?).getD none else qq7 D (name.length+1) (qh6 D (cut name [46]).1 S) (cut name [46]).2.1 (cut name [46]).2.2
structure Wt where
 out:zU
 holes:List (Nat×Nat×Int)
 steps:Nat
structure Ev where
 D:List Dt
 S:List Src
 vis:List (Nat×List Int)
 depth:Int
 room:Int
def Ev.parts(e:Ev)(v:Nat):List Pt:=match e.vis[v]? with
 |some x=>match e.S[x.1]? with
   |some s=>s.parts
   |none=>[]
 |none=>[]
def Ev.marks(e:Ev)(v:Nat):List Int:=match e.vis[v]? with
 |some x=>x.2
 |none=>[]
def Ev.put(e:Ev)(w:Wt)(t:zU):Wt×Int:=
 if 0<=e.room/\e.room - w.out.length<t.length then({ w with out:=w.out++t.take (e.room - w.out.length).toNat },6)else({ w with out:=w.out++t },0)
def Ev.hole(e:Ev)(K:List Pc)(w:Wt)(name:zU)(azs:Int):Wt×Int:=
 if qor azs≠0 then(w,qor azs)else
 ({ (e.put w (qgn azs (qc7 (qbe e.D (qe3 e.D K name))))).1 with holes:=w.holes++[(w.out.length,(e.put w (qgn azs (qc7 (qbe e.D (qe3 e.D K name))))).1.out.length,azs)] },
  (e.put w (qgn azs (qc7 (qbe e.D (qe3 e.D K name))))).2)
def qc9(body:List Pc->Wt->Wt×Int)(K:List Pc):List Pc->Wt->Wt×Int
 |[],w=>(w,0)
 |p::l,w=>if(body (p::K) w).2≠0 then body (p::K) w else qc9 body K l (body (p::K) w).1
def qdo(go:Wt->Wt×Int)(w:Wt):Wt×Int:=if w.steps=5000 then(w,5)else go { w with steps:=w.steps+1 }
def Ev.section(e:Ev)(body:List Pc->Wt->Wt×Int)(K:List Pc)(kind:Nat)(name:zU)(w:Wt):Wt×Int:=
 if qvb (qbe e.D (qe3 e.D K name))≠decide (kind=4)then(w,0)
 else if kind=4 then body K w else qc9 body K (qnb e.D (qe3 e.D K name)) w
def Ev.run(e:Ev):Nat->Nat->Nat->Nat->Int->List Pc->Wt->Wt×Int
 |0,_,_,_,_,_,w=>(w,5)
 |f+1,v,at',tz,qad,K,w=>
   if tz<=at' then(w,0) else qdo (fun w=>
    match (e.parts v)[at']? with
    |none=>(w,0)
    |some p=>
      let mark:=(e.marks v).getD at' 0
      let on:=fun(r:Wt×Int) (next:Nat)=>if r.2≠0 then r else e.run f v next tz qad K r.1
      if p.kind=1 then on (e.put w p.text) (at'+1)
      else if p.kind=2 then on (e.hole K w p.text mark) (at'+1)
      else if p.kind=3\/p.kind=4 then on (e.section (fun K w=>qdo (e.run f v (at'+1) p.mate qad K) w) K p.kind p.text w) (p.mate+1)
      else if p.kind=6 then on (if mark=0 then(w,0)else if e.depth<qad+1 then(w,4)else e.run f mark.toNat 0 (e.parts mark.toNat).length (qad+1) K w) (at'+1)
      else on (w,0) (at'+1)) w
def Ev.page(e:Ev):Wt×Int:=e.run 5002 0 0 (e.parts 0).length 0 [some 0] ⟨[],[],0⟩
theorem qht{go:Wt->Wt×Int}(ha:∀w,w.steps<=5000->w.steps<=(go w).1.steps/\(go w).1.steps<=5000)(w:Wt)(h:w.steps<=5000):w.steps<=(qdo go w).1.steps/\(qdo go w).1.steps<=5000:=by
 unfold qdo;split
 ·exact⟨yg _,h⟩
 ·have:=ha { w with steps:=w.steps+1 } (by show w.steps+1<=5000;omega)
  have e:({ w with steps:=w.steps+1 }:Wt).steps=w.steps+1:=rfl;omega
theorem qfp(e:Ev)(w:Wt)(t:zU):(e.put w t).1.steps=w.steps:=by unfold Ev.put;split<;>rfl
theorem qtc(e:Ev)(K:List Pc)(w:Wt)(name:zU)(azs:Int):(e.hole K w name azs).1.steps=w.steps:=by
 unfold Ev.hole;split
 ·rfl
 ·exact qfp _ _ _
theorem qot{body:List Pc->Wt->Wt×Int}(hb:∀K w,w.steps<=5000->w.steps<=(body K w).1.steps/\(body K w).1.steps<=5000)(K:List Pc):∀(l:List Pc) (w:Wt),w.steps<=5000->w.steps<=(qc9 body K l w).1.steps/\(qc9 body K l w).1.steps<=5000
 |[],w,h=>⟨yg _,h⟩
 |p::l,w,h=>by
   unfold qc9;have h1:=hb (p::K) w h;split
   ·exact h1
   ·have h2:=qot hb K l _ h1.2
    omega
theorem qmj(e:Ev){body:List Pc->Wt->Wt×Int}(hb:∀K w,w.steps<=5000->w.steps<=(body K w).1.steps/\(body K w).1.steps<=5000)(K:List Pc)(kind:Nat)(name:zU)(w:Wt)(h:w.steps<=5000) :
  w.steps<=(e.section body K kind name w).1.steps/\(e.section body K kind name w).1.steps<=5000:=by
 unfold Ev.section;split
 ·exact⟨yg _,h⟩
 ·split
  ·exact hb K w h
  ·exact qot hb K _ w h
theorem qqd(e:Ev):∀(f v at' tz:Nat) (qad:Int) (K:List Pc) (w:Wt),w.steps<=5000->w.steps<=(e.run f v at' tz qad K w).1.steps/\(e.run f v at' tz qad K w).1.steps<=5000:=by
 intro f
 induction f with
 |zero=>intro v at' tz qad K w h;exact⟨yg _,h⟩
 |succ f IH=>
   intro v at' tz qad K w h;unfold Ev.run;split
   ·exact⟨yg _,h⟩
   ·refine qht (fun w h=>?_) w h
    have ha:∀(r:Wt×Int) (next:Nat),(w.steps<=r.1.steps/\r.1.steps<=5000)->w.steps<=(if r.2≠0 then r else e.run f v next tz qad K r.1).1.steps/\(if r.2≠0 then r else e.run f v next tz qad K r.1).1.steps<=5000:=by
     intro r next hr
     split
     ·exact hr
     ·have:=IH v next tz qad K r.1 hr.2
      omega
    split
    ·exact⟨yg _,h⟩
    ·rename_i p hp
     dsimp only;split
     ·exact ha _ _ (by rw[qfp];exact⟨yg _,h⟩)
     split
     ·exact ha _ _ (by rw[qtc];exact⟨yg _,h⟩)
     split
     ·exact ha _ _ (qmj e (fun K w h=>qht (fun w h=>IH _ _ _ _ _ w h) w h) K _ _ w h)
     split
     ·refine ha _ _ ?_
      split
      ·exact⟨yg _,h⟩
      ·split
       ·exact⟨yg _,h⟩
       ·exact IH _ _ _ _ _ w h
     ·exact ha (w,0) _ ⟨yg _,h⟩
end Pl
namespace Pl
abbrev Ev.roomy(e:Ev)(r:Int):Ev:={ e with room:=r }
def qjb(k:Nat)(w:Wt)(g h:Wt×Int):Prop:=w.out <+: g.1.out/\(w.out.length<=k->(g.1.out.length<=k->h=g)/\(k<g.1.out.length->h.2=6/\h.1.out=g.1.out.take k))
theorem qd6(k:Nat)(w:Wt)(c:Int):qjb k w (w,c) (w,c):=⟨yA _,fun hw=>⟨fun _=>rfl,fun h=>absurd hw (Nat.not_le_of_lt h)⟩⟩
theorem qjb.seq{k:Nat}{w:Wt}{g h:Wt×Int}(h1:qjb k w g h){g' h':Wt->Wt×Int}(h2:∀w,qjb k w (g' w) (h' w)):qjb k w (if g.2≠0 then g else g' g.1) (if h.2≠0 then h else h' h.1):=by
 obtain⟨p1,q1⟩:=h1;obtain⟨p2,q2⟩:=h2 g.1;by_cases hz:g.2≠0
 ·rw[if_pos hz]
  refine⟨p1,fun hw=>⟨fun hk=>?_,fun hk=>?_⟩⟩
  ·rw[(q1 hw).1 hk,if_pos hz]
  ·obtain⟨c1,c2⟩:=(q1 hw).2 hk
   rw[if_pos (by rw[c1];decide)];exact⟨c1,c2⟩
 ·rw[if_neg hz]
  refine⟨p1.trans p2,fun hw=>?_⟩;have hl:=p2.length_le;by_cases hk:g.1.out.length<=k
  ·rw[(q1 hw).1 hk,if_neg hz]
   exact q2 hk
  ·obtain⟨c1,c2⟩:=(q1 hw).2 (by omega)
   rw[if_pos (by rw[c1];decide)];refine⟨fun q=>by omega,fun _=>⟨c1,c2.trans ?_⟩⟩;obtain⟨t,ht⟩:=p2;rw[<-ht,xE (by omega)]
theorem qtn{k:Nat}{g h:Wt->Wt×Int}(hg:∀w,qjb k w (g w) (h w))(w:Wt):qjb k w (qdo g w) (qdo h w):=by
 unfold qdo;split
 ·exact qd6 k w 5
 ·exact hg { w with steps:=w.steps+1 }
theorem qyr(e:Ev)(k:Nat)(t:zU)(w:Wt):qjb k w ((e.roomy (-1)).put w t) ((e.roomy k).put w t):=by
 have e1:(e.roomy (-1)).put w t=({ w with out:=w.out++t },0):=if_neg (fun q=>absurd q.1 (by show ¬(0:Int)<=-1;decide));rw[e1];refine⟨⟨t,rfl⟩,fun hw=>?_⟩;simp only[yJ];refine⟨fun hl=>if_neg (fun q=>?_),fun hl=>?_⟩
 ·have:=q.2
  change (k:Int) - _<_ at this;omega
 ·have e2:(e.roomy k).put w t=({ w with out:=w.out++t.take ((k:Int) - w.out.length).toNat },6):=if_pos ⟨Int.natCast_nonneg k,by show (k:Int) - _<_;omega⟩
  rw[e2];refine⟨rfl,?_⟩;show w.out++t.take _=(w.out++t).take k;rw[List.take_append,yp hw,show((k:Int) - w.out.length).toNat=k - w.out.length by omega]
theorem q6e(e:Ev)(k:Nat)(K:List Pc)(name:zU)(azs:Int)(w:Wt):qjb k w ((e.roomy (-1)).hole K w name azs) ((e.roomy k).hole K w name azs):=by
 unfold Ev.hole;split
 ·exact qd6 k w _
 ·obtain⟨p,q⟩:=qyr e k (qgn azs (qc7 (qbe e.D (qe3 e.D K name)))) w
  exact⟨p,fun hw=>⟨fun hk=>by show(_,_)=(_,_);rw[(q hw).1 hk],fun hk=>(q hw).2 hk⟩⟩
theorem qto{k:Nat}{b c:List Pc->Wt->Wt×Int}(hb:∀K w,qjb k w (b K w) (c K w))(K:List Pc):∀(l:List Pc) (w:Wt),qjb k w (qc9 b K l w) (qc9 c K l w)
 |[],w=>qd6 k w 0
 |p::l,w=>(hb (p::K) w).seq (qto hb K l)
theorem qyq(e:Ev)(k:Nat):∀(f v a t:Nat) (wi:Int) (K:List Pc) (w:Wt),qjb k w ((e.roomy (-1)).run f v a t wi K w) ((e.roomy k).run f v a t wi K w)
 |0,_,_,_,_,_,w=>qd6 k w 5
 |f+1,v,a,t,wi,K,w=>by
   unfold Ev.run;split
   ·exact qd6 k w 0
   refine qtn (fun w=>?_) w;show qjb k w (match (e.parts v)[a]? with|none=>_|some p=>_) (match (e.parts v)[a]? with|none=>_|some p=>_);cases (e.parts v)[a]? with
   |none=>exact qd6 k w 0
   |some p=>
     have IH:=qyq e k f;show qjb k w (if p.kind=1 then _ else _) (if p.kind=1 then _ else _);by_cases h1:p.kind=1
     ·rw[if_pos h1,if_pos h1]
      exact(qyr e k p.text w).seq (IH _ _ _ _ _)
     rw[if_neg h1,if_neg h1];by_cases h2:p.kind=2
     ·rw[if_pos h2,if_pos h2]
      exact(q6e e k K p.text _ w).seq (IH _ _ _ _ _)
     rw[if_neg h2,if_neg h2];by_cases h3:p.kind=3\/p.kind=4
     ·rw[if_pos h3,if_pos h3]
      refine qjb.seq ?_ (IH _ _ _ _ _);have hb:∀K w,qjb k w (qdo ((e.roomy (-1)).run f v (a+1) p.mate wi K) w) (qdo ((e.roomy k).run f v (a+1) p.mate wi K) w):=fun K=>qtn (IH _ _ _ _ K);show qjb k w (if qvb (qbe e.D (qe3 e.D K p.text))≠decide (p.kind=4)then _ else _) (if qvb (qbe e.D (qe3 e.D K p.text))≠decide (p.kind=4)then _ else _);split
      ·exact qd6 k w 0
      split
      ·exact hb K w
      ·exact qto hb K _ w
     rw[if_neg h3,if_neg h3];by_cases h4:p.kind=6
     ·rw[if_pos h4,if_pos h4]
      refine qjb.seq ?_ (IH _ _ _ _ _);show qjb k w (if(e.marks v).getD a 0=0 then _ else if e.depth<wi+1 then _ else _) (if(e.marks v).getD a 0=0 then _ else if e.depth<wi+1 then _ else _);split
      ·exact qd6 k w 0
      split
      ·exact qd6 k w 4
      ·exact IH _ _ _ _ _ w
     rw[if_neg h4,if_neg h4];exact(qd6 k w 0).seq (IH _ _ _ _ _)
theorem zb2(e:Ev)(k:Nat):(((e.roomy (-1)).page).1.out.length<=k->(e.roomy k).page=(e.roomy (-1)).page)/\(k<((e.roomy (-1)).page).1.out.length->((e.roomy k).page).2=6/\((e.roomy k).page).1.out=((e.roomy (-1)).page).1.out.take k):=
 (qyq e k 5002 0 0 (e.parts 0).length 0 [some 0] ⟨[],[],0⟩).2 (yH _)
end Pl
theorem qhy(m:Int)(w:World) :
  zC 69 #[zI m] w (zQ (.bool (qca m)) w):=by
 have H:Hid (qca m=_):=show qca m=(m==21 || (m==22 || (m==23 || (m==29 || m==30))))from rfl;go_enter func69,ntmps69
 go_wp2
 all_goals
  go_ret
  exact⟨qas (by rw[H.out];first|(simp only[Bool.or_assoc])|(subst_vars;rfl)),rfl⟩
theorem qed(b:UInt8)(all:zT)(l:zU)(w:World)(ha:all.data.toList=l)(hl:l.length<=1000) :
  zC 80 #[zJ b.toNat,.string all] w (zQ (.bool (among b l)) w):=by
 rw[<-ha];refine zat b all w ?_;have:all.data.toList.length=all.size:=rfl;rw[<-this,ha];omega
theorem qlx(b c:UInt8)(h:((b.toNat:Int)==(c.toNat:Int))=true):b=c:=by rw[beq8,yF]at h;exact h
theorem qhx(b c:UInt8)(h:((b.toNat:Int)==(c.toNat:Int))=false):¬b=c:=by rw[beq8,yf]at h;exact h
theorem Pl.extract_drop(s:zT)(i:Nat):s.extract i s.size=⟨(s.data.toList.drop i).toArray⟩:=by
 apply xj;apply Array.ext';rw[ByteArray.data_extract,Array.toList_extract,xB,yp (by rw[yM];exact yg _)]
theorem Pl.extract_take(s:zT)(i:Nat):s.extract 0 i=⟨(s.data.toList.take i).toArray⟩:=by
 apply xj;apply Array.ext';rw[ByteArray.data_extract,Array.toList_extract,xB];simp
theorem zfa(s:zT)(k:Nat)(h:k<s.size):refR (s.data.toList.take (k+1)).reverse=(if s[k]=38 then true else if among s[k] qdj=true then refR (s.data.toList.take k).reverse else false):=by
 rw[qdn s k h,List.reverse_append];rfl
theorem qml(s:zT)(w:World)(hs:s.size<=4000000000000000000) :
  zC 68 #[.string s] w (zQ (.bool (qie s.data.toList)) w):=by
 go_enter func68,ntmps68
 go_wp2
 go_loop [3] (fun i=>∃k:Nat,k<=s.size/\i=zI ((k:Int) - 1)/\qie s.data.toList=refR (s.data.toList.take k).reverse) (fun i=>(intOf i+1).toNat)
 case atStart=>exact⟨s.size,yg _,by first|rfl|go_num,by rw[qeo s _ (yg _)];rfl⟩
 case round=>
  obtain⟨k,hk,rfl,hr⟩:=hrel;have HR:Hid (qie s.data.toList=refR (s.data.toList.take k).reverse):=hr;clear hr
  match k,hk with
  |0,_=>
    go_wp2
    go_ret
    exact⟨qas (by rw[HR.out];rfl),rfl⟩
  |k+1,hk=>
    have ha:k<s.size:=by omega
    have HS:=zH (zfa s k ha);have e1:(((k+1:Nat):Int) - 1)=(k:Int):=by omega
    rw[e1];have Ha:(k:Int)<(s.size:Int):=by omega
    go_wp2_with (go_at_call 80;refine cm (qed s[k] _ qdj _ rfl (by decide)) ?_)
    ·go_ret
     exact⟨qas (by rw[HR.out,HS.out,if_pos (qlx s[k] 38 ‹_›)]),rfl⟩
    ·have h1:=qhx s[k] 38 ‹_›
     have h2:among s[k] qdj=false:=by simpa using ‹(!among s[k] qdj)=true›
     go_ret
     exact⟨qas (by rw[HR.out,HS.out,if_neg h1,h2];rfl),rfl⟩
    ·have h1:=qhx s[k] 38 ‹_›
     have h2:among s[k] qdj=true:=by simpa using ‹(!among s[k] qdj)=false›
     go_round
     case rel=>exact⟨k,by omega,rfl,by rw[HR.out,HS.out,if_neg h1,if_pos h2]⟩
     case measure=>simp[intOf]
theorem zbj(s:zT)(w:World)(hs:s.size<=4000000000000000000) :
  zC 168 #[.string s] w (zQ (zV (qce s.data.toList)) w):=by
 by_cases h:12<s.size
 ·have HV:Hid (qce s.data.toList=s.data.toList.drop (s.size - 12)):=by show _=_;unfold qce;rw[if_pos (by show 12<s.data.toList.length;exact h)];rfl
  have hi:(12:Int)<(s.size:Int):=by omega
  have h0:(0:Int)<=(s.size:Int) - 12:=by omega
  go_enter func168,ntmps168
  go_wp2
  go_ret
  exact⟨qcl (by rw[HV.out];exact extract_drop s _),rfl⟩
 ·have HV:Hid (qce s.data.toList=s.data.toList):=by show _=_;unfold qce;rw[if_neg (by show ¬ 12<s.data.toList.length;exact h)]
  go_enter func168,ntmps168
  go_wp2
  go_ret
  exact⟨qcl (by rw[HV.out]),rfl⟩
theorem q6d(s:zT)(w:World)(hs:s.size<=4000000000000000000) :
  zC 212 #[.string s] w (zQ (zV (qfx s.data.toList)) w):=by
 by_cases h:9<s.size
 ·have HV:Hid (qfx s.data.toList=s.data.toList.take 9):=by show _=_;unfold qfx;rw[if_pos (by show 9<s.data.toList.length;exact h)]
  have hi:(9:Int)<(s.size:Int):=by omega
  go_enter func212,ntmps212
  go_wp2
  go_ret
  exact⟨qcl (by rw[HV.out];exact extract_take s _),rfl⟩
 ·have HV:Hid (qfx s.data.toList=s.data.toList):=by show _=_;unfold qfx;rw[if_neg (by show ¬ 9<s.data.toList.length;exact h)]
  go_enter func212,ntmps212
  go_wp2
  go_ret
  exact⟨qcl (by rw[HV.out]),rfl⟩
theorem zc5(css:Bool)(s:zT)(k:Nat)(h:k<s.size):qdz css (s.data.toList.take (k+1))=qcp css (qdz css (s.data.toList.take k)) s[k]:=by
 rw[qdn s k h];simp[qdz]
theorem qvm(css:Bool)(l:Int)(b:UInt8)(h0:0<=l)(h6:l<=6):0<=qcp css l b/\qcp css l b<=6:=by
 unfold qcp
 repeat' split
 all_goals omega
theorem q1w(css:Bool)(l:zU):0<=qdz css l/\qdz css l<=6:=by
 unfold qdz;have:∀(l:zU) (x:Int),0<=x->x<=6->0<=l.foldl (qcp css) x/\l.foldl (qcp css) x<=6:=by
  intro l
  induction l with
  |nil=>intro x h0 h6;exact⟨h0,h6⟩
  |cons b l ih=>
    intro x h0 h6;have:=qvm css x b h0 h6;exact ih _ this.1 this.2
 exact this l 0 (by omega) (by omega)
theorem qnx(s:zT)(css:Bool)(w:World)(hs:s.size<=4000000000000000000) :
  zC 70 #[.string s,.bool css] w (zQ (zI (qdz css s.data.toList)) w):=by
 go_enter func70,ntmps70
 go_wp2
 go_loop [5,6] (fun l i=>∃k:Nat,k<=s.size/\i=zI k/\l=zI (qdz css (s.data.toList.take k))) (fun _ i=>s.size - (intOf i).toNat)
 case atStart=>exact⟨0,yH _,rfl,rfl⟩
 case round=>
  obtain⟨k,hk,rfl,rfl⟩:=hrel;by_cases ha:k<s.size
  ·have HS:=zH (zc5 css s k ha)
   have hr:=q1w css (s.data.toList.take k);generalize qdz css (s.data.toList.take k)=l at HS hr |-;obtain⟨hb,Hb⟩:=hr;by_cases hh:among s[k] qa1=true
   ·by_cases h1:l=1
    ·subst h1
     cases css
     ·go_wp2_with (go_at_call 80;refine cm (qed s[k] _ qa1 _ rfl (by decide)) ?_)
      all_goals
       go_round
       case rel=>exact⟨k+1,by omega,by go_num,by rw[HS.out];unfold qcp;first|(have e:=qlx s[k] 120 ‹_›;rw[e];rfl)|(have e:=qlx s[k] 117 ‹_›;rw[e];rfl)|(have n1:=qhx s[k] 120 ‹_›;have n2:=qhx s[k] 117 ‹_›;simp[n1,n2])⟩
       case measure=>simp[intOf];omega
     ·go_wp2_with (go_at_call 80;refine cm (qed s[k] _ qa1 _ rfl (by decide)) ?_)
      all_goals
       go_round
       case rel=>exact⟨k+1,by omega,by go_num,by rw[HS.out];unfold qcp;simp[hh]⟩
       case measure=>simp[intOf];omega
    ·have Ha:(l==1)=false:=yf.2 h1
     by_cases h2:1<l
     ·go_wp2_with (go_at_call 80;refine cm (qed s[k] _ qa1 _ rfl (by decide)) ?_)
      all_goals
       go_round
       case rel=>exact⟨k+1,by omega,by go_num,by rw[HS.out];unfold qcp;rw[if_neg h1,if_pos ⟨h2,hh⟩];first|(rw[if_pos (yF.1 ‹(l - 1==1)=true›)])|(rw[if_neg (yf.1 ‹(l - 1==1)=false›)])⟩
       case measure=>simp[intOf];omega
     ·have hc:decide (1<l)=false:=yx h2
      go_wp2_with (go_at_call 80;refine cm (qed s[k] _ qa1 _ rfl (by decide)) ?_)
      all_goals
       go_round
       case rel=>exact⟨k+1,by omega,by go_num,by rw[HS.out];unfold qcp;rw[if_neg h1,if_neg (fun q=>absurd q.1 (by omega))];first|(rw[if_pos (qlx s[k] 92 ‹_›)])|(rw[if_neg (qhx s[k] 92 ‹_›)])⟩
       case measure=>simp[intOf];omega
   ·have hh:=ye.2 hh
    by_cases h1:l=1
    ·subst h1
     cases css
     ·go_wp2_with (go_at_call 80;refine cm (qed s[k] _ qa1 _ rfl (by decide)) ?_)
      all_goals
       go_round
       case rel=>exact⟨k+1,by omega,by go_num,by rw[HS.out];unfold qcp;first|(have e:=qlx s[k] 120 ‹_›;rw[e];rfl)|(have e:=qlx s[k] 117 ‹_›;rw[e];rfl)|(have n1:=qhx s[k] 120 ‹_›;have n2:=qhx s[k] 117 ‹_›;simp[n1,n2])⟩
       case measure=>simp[intOf];omega
     ·go_wp2_with (go_at_call 80;refine cm (qed s[k] _ qa1 _ rfl (by decide)) ?_)
      all_goals
       go_round
       case rel=>exact⟨k+1,by omega,by go_num,by rw[HS.out];unfold qcp;simp[hh]⟩
       case measure=>simp[intOf];omega
    ·have Ha:(l==1)=false:=yf.2 h1
     go_wp2_with (go_at_call 80;refine cm (qed s[k] _ qa1 _ rfl (by decide)) ?_)
     all_goals
      go_round
      case rel=>exact⟨k+1,by omega,by go_num,by rw[HS.out];unfold qcp;rw[if_neg h1,if_neg (fun q=>by rw[hh]at q;cases q.2)];first|(rw[if_pos (qlx s[k] 92 ‹_›)])|(rw[if_neg (qhx s[k] 92 ‹_›)])⟩
      case measure=>simp[intOf];omega
  ·go_wp2
   go_ret
   exact⟨qal (by rw[qeo s k (by omega)]),rfl⟩
namespace Pl
def qdr(s x:zU)(a:Nat):Int:=if Go.Lib.index (s.drop a) x<0 then -1 else a+Go.Lib.index (s.drop a) x
theorem zd5(s x:zT)(k:Nat):Go.Lib.occAt s.data.toList x.data.toList k=((s.extract k (k+x.size)).toList==x.toList):=by
 have e1:(s.extract k (k+x.size)).toList=(s.data.toList.drop k).take x.size:=by
  rw[yW,ByteArray.data_extract,Array.toList_extract,xB]
  congr 1;omega
 rw[e1,yW,xi,yF];unfold Go.Lib.occAt;rw[List.isPrefixOf_iff_prefix,List.prefix_iff_eq_take];exact⟨fun q=>q.symm,fun q=>q.symm⟩
theorem qux(s x:zU)(a j:Nat):Go.Lib.occAt (s.drop a) x j=Go.Lib.occAt s x (a+j):=by
 unfold Go.Lib.occAt;rw[yD]
theorem zb6(s x:zU)(j:Nat)(h:s.length<j+x.length)(hj:j<=s.length):Go.Lib.occAt s x j=false:=by
 unfold Go.Lib.occAt;rw[ye];intro q;have:=(List.isPrefixOf_iff_prefix.1 q).length_le;rw[yM]at this;omega
theorem zcz(s x:zU)(a k:Nat)(ha:a<=k)(hk:k<=s.length)(hn:∀j,a<=j->j<k->Go.Lib.occAt s x j=false)(h:Go.Lib.occAt s x k=true):qdr s x a=k:=by
 have e:Go.Lib.index (s.drop a) x=((k - a:Nat):Int):=Go.Lib.index_first (by rw[yM];omega) (by rw[qux];rwa [Nat.add_sub_cancel' ha]) (fun j hj=>by rw[qux];exact hn _ (by omega) (by omega));unfold qdr;rw[e,if_neg (by omega)];omega
theorem qx9(s x:zU)(a:Nat)(ha:a<=s.length)(hn:∀j,a<=j->j+x.length<=s.length->Go.Lib.occAt s x j=false):qdr s x a=-1:=by
 have e:Go.Lib.index (s.drop a) x=-1:=Go.Lib.index_none (fun j hj=>by
  rw[qux];rw[yM]at hj;by_cases q:a+j+x.length<=s.length
  ·exact hn _ (by omega) q
  ·exact zb6 _ _ _ (by omega) (by omega))
 unfold qdr;rw[e,if_pos (by omega)]
end Pl
theorem qtl(s x:zT)(a:Nat)(w:World)(hs:s.size<=1000000)(hx:x.size<=1000000)(ha:a<=s.size) :
  zC 81 #[.string s,.string x,zI a] w (zQ (zI (Pl.qdr s.data.toList x.data.toList a)) w):=by
 go_enter func81,ntmps81
 go_wp2
 go_loop [7] (fun i=>∃k:Nat,a<=k/\k<=s.size+1/\i=zI k/\Hid (∀j,a<=j->j<k->Go.Lib.occAt s.data.toList x.data.toList j=false)) (fun i=>s.size+1 - (intOf i).toNat)
 case atStart=>exact⟨a,yg _,by omega,rfl,fun j h1 h2=>by omega⟩
 case round=>
  obtain⟨k,hb,hk,rfl,HN⟩:=hrel;by_cases hc:k+x.size<=s.size
  ·have Ha:(k:Int)+(x.size:Int)<=(s.size:Int):=by omega
   by_cases hq:(s.extract k (k+x.size)).toList==x.toList
   ·have HF:=zH (Pl.zcz s.data.toList x.data.toList a k hb (by show k<=s.size;omega) HN.out (by rw[Pl.zd5 s x k];exact hq))
    clear HN;go_wp2
    go_ret
    exact⟨by rw[HF.out];rfl,rfl⟩
   ·have hq:=ye.2 hq
    have Hb:Hid (∀j,a<=j->j<k+1->Go.Lib.occAt s.data.toList x.data.toList j=false):=by
     intro j h1 h2;by_cases e:j=k
     ·subst e;rw[Pl.zd5 s x j];exact hq
     ·exact HN.out j h1 (by omega)
    clear HN;go_wp2
    go_round
    case rel=>exact⟨k+1,by omega,by omega,by go_num,Hb⟩
    case measure=>simp[intOf];omega
  ·have HF:=zH (Pl.qx9 s.data.toList x.data.toList a ha (fun j h1 h2=>HN.out j h1 (by have e1:s.data.toList.length=s.size:=rfl;have e2:x.data.toList.length=x.size:=rfl;omega)))
   clear HN;have Ha:decide ((k:Int)+(x.size:Int)<=(s.size:Int))=false:=by rw[yO];omega
   go_wp2
   go_ret
   exact⟨by rw[HF.out];rfl,rfl⟩
theorem qmx(b:UInt8):among b [97,98,99,100,101,102,103,104,105,106,107,108,109,110,111,112,113,114,115,116,117,118,119,120,121,122,48,49,50,51,52,53,54,55,56,57,95]=qc2 b:=by
 have:∀n∈List.range 256,among (UInt8.ofNat n) [97,98,99,100,101,102,103,104,105,106,107,108,109,110,111,112,113,114,115,116,117,118,119,120,121,122,48,49,50,51,52,53,54,55,56,57,95]=qc2 (UInt8.ofNat n):=by decide +kernel
 have:=this b.toNat (xh.2 b.toNat_lt)
 rwa [UInt8.ofNat_toNat]at this
theorem q98(s:zT)(f:UInt8->Bool)(k:Nat)(h:k<s.size):(s.data.toList.take (k+1)).all f=((s.data.toList.take k).all f && f s[k]):=by
 rw[qdn s k h,List.all_append];simp
theorem qrc(s:zT)(w:World)(hs:s.size<=1000000000) :
  zC 52 #[.string s] w (zQ (.bool (qa4 s.data.toList)) w):=by
 go_enter func52,ntmps52
 go_wp2
 go_loop [3] (fun i=>∃k:Nat,k<=s.size/\i=zI k/\Hid ((s.data.toList.take k).all qc2=true)) (fun i=>s.size - (intOf i).toNat)
 case atStart=>exact⟨0,yH _,rfl,by show _=_;rfl⟩
 case round=>
  obtain⟨k,hk,rfl,HN⟩:=hrel;by_cases Hb:k<s.size
  ·have Ha:(k:Int)<(s.size:Int):=by omega
   have HA:=zH (q98 s qc2 k Hb);by_cases hb:qc2 s[k]=true
   ·go_wp2_with (go_at_call 80;refine cm (qed s[k] _ _ _ rfl (by decide)) ?_;rw[qmx,hb])
    go_round
    case rel=>exact⟨k+1,by omega,by go_num,by show _=_;rw[HA.out,HN.out,hb];rfl⟩
    case measure=>simp[intOf];omega
   ·have hb:=ye.2 hb
    have HF:Hid (qa4 s.data.toList=false):=by
     show _=_;have:s.data.toList.all qc2=false:=by
      rw[ye];intro q;have:=yX.1 q s[k] (yl (qe5 s k Hb));rw[hb]at this;cases this
     unfold qa4;rw[this];simp
    go_wp2_with (go_at_call 80;refine cm (qed s[k] _ _ _ rfl (by decide)) ?_;rw[qmx,hb])
    go_ret
    exact⟨by rw[HF.out];rfl,rfl⟩
  ·have Ha:decide ((k:Int)<(s.size:Int))=false:=by rw[yO];omega
   have ha:s.data.toList.all qc2=true:=by have:=HN.out;rwa [qeo s k (by omega)]at this
   have HF:Hid (qa4 s.data.toList=(decide (1<=s.size) && decide (s.size<=8))):=by
    show _=_;unfold qa4;rw[ha,Bool.and_true];have e:s.data.toList.length=s.size:=rfl;rw[e]
    congr 1
    cases h:s.data.toList with
    |nil=>rw[h]at e;simp at e;simp[<-e]
    |cons b l=>rw[h]at e;simp at e;simp;omega
   clear HN ha;by_cases h1:1<=s.size
   ·by_cases h2:s.size<=8
    ·have q1:(s.size:Int)≥1:=by omega
     have q2:(s.size:Int)<=8:=by omega
     go_wp2
     go_ret
     exact⟨by rw[HF.out,yV h1,yV h2];rfl,rfl⟩
    ·have q1:(s.size:Int)≥1:=by omega
     have q2:decide ((s.size:Int)<=8)=false:=by rw[yO];omega
     go_wp2
     go_ret
     exact⟨by rw[HF.out,yV h1,yx h2];rfl,rfl⟩
   ·have q1:decide ((s.size:Int)≥1)=false:=by rw[yO];omega
    go_wp2
    go_ret
    exact⟨by rw[HF.out,yx h1];rfl,rfl⟩
theorem qf4(s:zT)(w:World)(hs:s.size<=1000000) :
  zC 52 #[.string s] w (zQ (.bool (qa4 s.data.toList)) w):=qrc s w (by omega)
namespace Pl
variable{S:List Src}{s:Sr}{e:En}
structure Inv(S:List Src)(s:Sr):Prop where
 ends:EndsOk S.length s.ends
 key:∀p∈s.nums,SxFit p.1.2/\p.1.1<S.length
 one:ql6 s.nums
 sub:∀p∈s.nums,p.1=(0,Sx.start)\/qa9 s.ends p.1≠Option.none
 zero:∀p∈s.nums,p.2=0->p.1.1=0
 vis:s.vis.length=s.nums.length
structure Gv(s s':Sr):Prop where
 has:∀e,qa9 s.ends e≠Option.none->qa9 s'.ends e≠Option.none
 nums:s.nums.length<=s'.nums.length
 vis:∀(i:Nat) (u:Nat×List Int),s.vis[i]?=some u->∃u',s'.vis[i]?=some u'/\u'.1=u.1/\u'.2.length=u.2.length
theorem Gv.refl(s:Sr):Gv s s:=⟨fun _ h=>h,yg _,fun _ u h=>⟨u,h,rfl,rfl⟩⟩
theorem Gv.trans{a b c:Sr}(h:Gv a b)(k:Gv b c):Gv a c:=
 ⟨fun e q=>k.has e (h.has e q),yh h.nums k.nums,fun i u q=>by
  obtain⟨u1,e1,e2,e3⟩:=h.vis i u q;obtain⟨u2,f1,f2,f3⟩:=k.vis i u1 e1;exact⟨u2,f1,f2.trans e2,f3.trans e3⟩⟩
theorem Inv.mark(h:Inv S s)(v a:Nat)(m:Int):Inv S (s.mark v a m):=⟨h.ends,h.key,h.one,h.sub,h.zero,by unfold Sr.mark;simp[h.vis]⟩
theorem Gv.mark(s:Sr)(v a:Nat)(m:Int):Gv s (s.mark v a m):=
 ⟨fun _ h=>h,yg _,fun i u hu=>by
  show ∃u',(s.vis.modify v fun x=>(x.1,x.2.set a m))[i]?=some u'/\_;rw[List.getElem?_modify,hu];by_cases h:v=i
  ·exact⟨(u.1,u.2.set a m),by simp[h],rfl,by simp⟩
  ·exact⟨u,by simp[h],rfl,rfl⟩⟩
theorem Inv.wrong(h:Inv S s)(S':List Src)(i:Nat)(kind:Int)(pos:Nat):Inv S (s.wrong S' i kind pos):=⟨h.ends,h.key,h.one,h.sub,h.zero,h.vis⟩
theorem Gv.wrong(s:Sr)(S':List Src)(i:Nat)(kind:Int)(pos:Nat):Gv s (s.wrong S' i kind pos):=⟨fun _ h=>h,yg _,fun _ u h=>⟨u,h,rfl,rfl⟩⟩
theorem Inv.grew{s':Sr}(h:Inv S s)(g:Grew S.length s s'):Inv S s'/\Gv s s':=
 ⟨⟨g.ok,by rw[g.nums];exact h.key,by rw[g.nums];exact h.one,by rw[g.nums];exact fun p hp=>(h.sub p hp).imp_right (g.has _),by rw[g.nums];exact h.zero,by rw[g.vis,g.nums];exact h.vis⟩,
  ⟨g.has,by rw[g.nums];exact yg _,by rw[g.vis];exact fun _ u h=>⟨u,h,rfl,rfl⟩⟩⟩
theorem q20{α:Type}[DecidableEq α]:∀(l m:List α),l.Nodup->(∀x∈l,x∈m)->l.length<=m.length
 |[],m,_,_=>yH _
 |x::l,m,h,hs=>by
   obtain⟨h1,h2⟩:=List.nodup_cons.1 h;have hx:=hs x (by simp);have:=q20 l (m.erase x) h2 (fun y hy=>(List.mem_erase_of_ne (fun e=>h1 (by rw[<-e];exact hy))).2 (hs y (yY _ hy)));rw[List.length_erase_of_mem hx]at this;have hp:=List.length_pos_of_mem hx;simp only[yK];omega
theorem qmt{α:Type}:∀ {l:List (En×α)},ql6 l->(l.map (·.1)).Nodup
 |[],_=>List.nodup_nil
 |p::l,h=>by
   have ht:ql6 l:=fun i j a b hi hj e=>by
    have:=h (i+1) (j+1) a b (by simpa using hi) (by simpa using hj) e;omega
   rw[List.map_cons,List.nodup_cons];refine⟨fun hm=>?_,qmt ht⟩;obtain⟨q,hq,e⟩:=xt.1 hm;obtain⟨i,hi⟩:=xo hq;have:=h 0 (i+1) p q rfl (by simpa using hi) e.symm;omega
theorem q9l{α:Type}{l:List (En×α)}(h:qa9 l e≠Option.none):e∈l.map (·.1):=by
 cases hg:qa9 l e with
 |none=>exact absurd hg h
 |some v=>exact xt.2 ⟨_,qg3 hg,rfl⟩
theorem Inv.few(h:Inv S s):s.nums.length<=s.ends.length+1:=by
 have:=q20 (s.nums.map (·.1)) ((0,Sx.start)::s.ends.map (·.1)) (qmt h.one) (fun x hx=>by
  obtain⟨p,hp,rfl⟩:=xt.1 hx;rcases h.sub p hp with e|e
  ·rw[e];simp
  ·exact yY _ (q9l e))
 simpa using this
structure Pre(S:List Src)(s:Sr)(e:En):Prop where
 inv:Inv S s
 new:qa9 s.nums e=Option.none
 src:(e=(0,Sx.start)/\s.nums=[])\/(qa9 s.ends e≠Option.none/\1<=e.1/\s.nums≠[])
 fit:SxFit e.2
 lt:e.1<S.length
theorem Pre.begun(h:Pre S s e):Inv S (begun S s e)/\Gv s (begun S s e)/\(Pl.begun S s e).nums.length=s.nums.length+1:=by
 have ha:qbi s.nums e s.vis.length=s.nums++[(e,s.vis.length)]:=qfg h.new _;refine⟨⟨h.inv.ends,?_,?_,?_,?_,?_⟩,⟨fun _ q=>q,?_,?_⟩,?_⟩
 ·intro p hp
  rcases qnp hp with rfl|hp
  ·exact⟨h.fit,h.lt⟩
  ·exact h.inv.key p hp
 ·exact qqz h.inv.one _ _
 ·intro p hp
  rcases qnp hp with rfl|hp
  ·rcases h.src with q | q
   ·exact .inl q.1
   ·exact .inr q.1
  ·exact h.inv.sub p hp
 ·intro p hp h0
  rcases qnp hp with rfl|hp
  ·rcases h.src with q | q
   ·rw[q.1]
   ·exfalso
    have h0:s.vis.length=0:=h0;rw[h.inv.vis]at h0;exact q.2.2 (List.length_eq_zero_iff.1 h0)
  ·exact h.inv.zero p hp h0
 ·show (s.vis++[_]).length=(qbi _ _ _).length
  rw[ha];simp[h.inv.vis]
 ·show s.nums.length<=(qbi _ _ _).length
  rw[ha];simp
 ·intro i u hu
  refine⟨u,?_,rfl,rfl⟩;show(s.vis++[_])[i]?=some u;rw[yr (yb.1 hu).1];exact hu
 ·show (qbi _ _ _).length=_
  rw[ha];simp
def NmOk(S:List Src)(nm:Sr->zU->Sx->Sr×Nat×Sx)(m:Nat):Prop:=∀s t x,Inv S s->m<=s.nums.length->SxFit x->Inv S (nm s t x).1/\Gv s (nm s t x).1/\qv7 (nm s t x).2.2
theorem zhh{nm:Sr->zU->Sx->Sr×Nat×Sx}{m:Nat}(Ha:NmOk S nm m)(i v:Nat)(P:List Pt):∀(n a:Nat) (s:Sr) (x:Sx) (B:List (Sx×Nat)),Inv S s->m<=s.nums.length->SxFit x->(∀b∈B,SxFit b.1)->Inv S (goV nm S i v P n a s x B)/\Gv s (goV nm S i v P n a s x B):=by
 intro n
 induction n with
 |zero=>intro a s x B h _ _ _;exact⟨h,Gv.refl s⟩
 |succ n ih=>
   intro a s x B h hm hx hB;unfold goV;cases hp:P[a]? with
   |none=>exact⟨h,Gv.refl s⟩
   |some p=>
     simp only;split
     ·split
      ·exact⟨h.wrong _ _ _ _,Gv.wrong _ _ _ _ _⟩
      ·exact ih _ s _ B h hm (qku _ _ hx) hB
     ·split
      ·split
       ·exact⟨h.wrong _ _ _ _,Gv.wrong _ _ _ _ _⟩
       ·obtain⟨h1,h2⟩:=ih (a+1) (s.mark v a x.hole.1) x.behindHole B (h.mark _ _ _) hm (qmy hx) hB
        exact⟨h1,(Gv.mark s v a _).trans h2⟩
      ·split
       ·exact ih _ s x _ h hm hx (fun b hb=>by
         rcases yn.1 hb with hb|hb
         ·exact hB b hb
         ·simp at hb;subst hb;exact hx)
       ·split
        ·split
         ·exact⟨h,Gv.refl s⟩
         ·split
          ·exact⟨h.wrong _ _ _ _,Gv.wrong _ _ _ _ _⟩
          ·exact ih _ s x _ h hm hx (fun b hb=>hB b ((List.dropLast_sublist _).subset hb))
        ·split
         ·obtain⟨h1,h2,h3⟩:=Ha s p.text x h hm hx
          have g1:=h1.mark v a ((nm s p.text x).2.1:Nat);have g2:=h2.trans (Gv.mark (nm s p.text x).1 v a ((nm s p.text x).2.1:Nat));have ha:m<=((nm s p.text x).1.mark v a ((nm s p.text x).2.1:Nat)).nums.length:=yh hm h2.nums;split
          ·exact⟨g1,g2⟩
          ·split
           ·rename_i Hb
            obtain⟨k1,k2⟩:=ih (a+1) _ _ B g1 ha (qq9 h3 (by rw[Hb];simp)) hB;exact⟨k1,g2.trans k2⟩
           ·split
            ·exact⟨g1,g2⟩
            ·rename_i b hb
             obtain⟨k1,k2⟩:=ih b.2 _ b.1 B g1 ha (hB b (List.mem_of_getLast? hb)) hB;exact⟨k1,g2.trans k2⟩
         ·exact ih _ s x B h hm hx hB
theorem zdp(S:List Src)(k:Nat)(s:Sr)(n:zU)(x:Sx)(h0:qaj S n≠0):qa9 (behV S (k+1) s n x).1.ends (qaj S n,x)≠Option.none\/(behV S (k+1) s n x).1.fault=qtd:=by
 unfold behV;rw[if_neg h0];cases hg:qa9 s.ends (qaj S n,x)with
 |some e=>exact .inl (by simp[hg])
 |none=>
   simp only;split
   ·exact .inr rfl
   ·refine .inl ?_
    show qa9 (qbi _ _ _) _≠_;rw[qg2,if_pos rfl];simp
theorem q8n{n:zU}{x:Sx}(h:Inv S s)(h1:1<=s.nums.length)(hx:SxFit x)(h0:qaj S n≠0)(hf:(behV S 257 s n x).1.fault.code=0)(hz:qhc (behV S 257 s n x).1 (qaj S n,x)=0):Pre S (behV S 257 s n x).1 (qaj S n,x):=by
 obtain⟨g1,g2⟩:=qke S 257 0 (by omega) s n x h.ends (yH _) hx;obtain⟨i1,i2⟩:=h.grew g1;have ha:=qfh S n h0;refine⟨i1,?_,.inr ⟨?_,ha.1,fun e=>?_⟩,hx,ha.2⟩
 ·cases hg:qa9 (behV S 257 s n x).1.nums (qaj S n,x)with
  |none=>rfl
  |some v=>
    exfalso;have hv:v=0:=by
     unfold qhc at hz;rw[hg]at hz;exact hz
    have:=i1.zero _ (qg3 hg) hv;simp only at this;omega
 ·rcases zdp S 256 s n x h0 with q | q
  ·exact q
  ·rw[q]at hf;cases hf
 ·rw[g1.nums]at e;rw[e]at h1;simp at h1
theorem qo7(S:List Src):∀(k:Nat) (s:Sr) (e:En),Pre S s e->258<=s.nums.length+k->Inv S (qev S k s e)/\Gv s (qev S k s e):=by
 intro k
 induction k with
 |zero=>
   intro s e h hk;have:=h.inv.few;have:=h.inv.ends.few;omega
 |succ k ih=>
   intro s e h hk;rw[qug];obtain⟨b1,b2,b3⟩:=h.begun;have ha:NmOk S (nmV S k) (s.nums.length+1):=by
    intro s' t x h' hm hx;obtain⟨g1,g2⟩:=qke S 257 0 (by omega) s' t x h'.ends (yH _) hx;obtain⟨i1,i2⟩:=h'.grew g1;unfold nmV;simp only;split
    ·exact⟨i1,i2,g2⟩
    ·rename_i hc
     split
     ·rename_i hz
      have hp:=q8n h' (by omega) hx (fun q=>hc (.inl q)) (by cases hq:(behV S 257 s' t x).1.fault.code with|zero=>rfl|succ n=>exact absurd (.inr (by rw[hq];simp)) hc) hz;obtain⟨j1,j2⟩:=ih _ _ hp (by rw[g1.nums];omega);exact⟨j1,i2.trans j2,g2⟩
     ·exact⟨i1,i2,g2⟩
   obtain⟨k1,k2⟩:=zhh ha e.1 s.vis.length (qah S e.1) ((qah S e.1).length+1) 0 (Pl.begun S s e) e.2 [] b1 (by omega) h.fit (fun b hb=>by cases hb);exact⟨k1,b2.trans k2⟩
theorem zhb(S:List Src)(k m:Nat)(hk:258<=m+k)(h1:1<=m):NmOk S (nmV S k) m:=by
 intro s' t x h' hm hx;obtain⟨g1,g2⟩:=qke S 257 0 (by omega) s' t x h'.ends (yH _) hx;obtain⟨i1,i2⟩:=h'.grew g1;unfold nmV;simp only;split
 ·exact⟨i1,i2,g2⟩
 ·rename_i hc
  split
  ·rename_i hz
   have hp:=q8n h' (by omega) hx (fun q=>hc (.inl q)) (by cases hq:(behV S 257 s' t x).1.fault.code with|zero=>rfl|succ n=>exact absurd (.inr (by rw[hq];simp)) hc) hz;obtain⟨j1,j2⟩:=qo7 S k _ _ hp (by rw[g1.nums];omega);exact⟨j1,i2.trans j2,g2⟩
  ·exact⟨i1,i2,g2⟩
theorem qww:∀(T:zU) (x:Sx) (j:Nat) (h:j<T.length),qcy x (T.take j)=Option.none->qcd (qax x (T.take j)).st.kind (qax x (T.take j)).st.mode (qax x (T.take j)).ma.far T[j]=true->qcy x T=some j
 |[],x,j,h,_,_=>by simp at h
 |b::l,x,0,h,_,hm=>by
   have hm:qcd x.st.kind x.st.mode x.ma.far b=true:=hm;unfold qcy;rw[if_pos hm]
 |b::l,x,j+1,h,h0,hm=>by
   rw[xf]at h0;unfold qcy at h0 |-;split at h0
   ·cases h0
   ·rename_i hb
    rw[if_neg hb];rw[Option.map_eq_none_iff]at h0;rw[qww l (x.behind b) j (by simpa using h) h0 hm];rfl
theorem qwv:∀(T:zU) (x:Sx) (j:Nat) (h:j<T.length),qcy x (T.take j)=Option.none->qcd (qax x (T.take j)).st.kind (qax x (T.take j)).st.mode (qax x (T.take j)).ma.far T[j]=false->qcy x (T.take (j+1))=Option.none
 |[],x,j,h,_,_=>by simp at h
 |b::l,x,0,h,_,hm=>by
   have hm:qcd x.st.kind x.st.mode x.ma.far b=false:=hm;rw[xf];unfold qcy;rw[hm,List.take_zero];rfl
 |b::l,x,j+1,h,h0,hm=>by
   rw[xf]at h0 |-;unfold qcy at h0 |-;split at h0
   ·cases h0
   ·rename_i hb
    rw[if_neg hb];rw[Option.map_eq_none_iff]at h0 |-;exact qwv l (x.behind b) j (by simpa using h) h0 hm
variable{c:Ct}{a N:Nat}
structure PtB(n:Nat)(p:Pt):Prop where
 text:p.text.length<=n
 mate:p.mate<=n
theorem qzk{t:zU}{z:Nat}(h:∀p∈c.parts,PtB t.length p):∀p∈(c.addText t a z).parts,PtB t.length p:=by
 unfold Ct.addText;split
 ·intro p hp
  simp only[yn,yv]at hp;rcases hp with hp|rfl
  ·exact h p hp
  ·refine⟨?_,yH _⟩
   simp only[yP,yM];omega
 ·exact h
theorem q7y{l:List Pt}(m n:Nat)(hn:n<=N)(h:∀p∈l,PtB N p):∀p∈qbd l m n,PtB N p:=by
 induction l generalizing m with
 |nil=>unfold qbd;simp
 |cons q l ih=>
   cases m with
   |zero=>
     intro p hp;have e:qbd (q::l) 0 n={ q with mate:=n }::l:=rfl;rw[e]at hp;rcases xu.1 hp with rfl|hp
     ·exact⟨(h q (by simp)).text,hn⟩
     ·exact h p (yY _ hp)
   |succ m=>
     intro p hp;have e:qbd (q::l) (m+1) n=q::qbd l m n:=by simp[qbd]
     rw[e]at hp;rcases xu.1 hp with rfl|hp
     ·exact h p (by simp)
     ·exact ih m (fun r hr=>h r (yY _ hr)) p hp
theorem zgz{one:Tg}(h:∀p∈c.parts,PtB N p)(hn:one.name.length<=N)(hl:c.parts.length<=N)(ho:∀m∈c.opened,m<c.parts.length):∀p∈(c.take one a).2.parts,PtB N p:=by
 have Ha:PtB N ⟨one.kind,a,one.name,0⟩:=⟨hn,yH _⟩;have ha:∀(l:List Pt) (q:Pt),(∀p∈l,PtB N p)->PtB N q->∀p∈l++[q],PtB N p:=fun l q hl hq p hp=>by
  simp only[yn,yv]at hp;rcases hp with hp|rfl
  ·exact hl p hp
  ·exact hq
 unfold Ct.take;by_cases h1:one.slip≠0
 ·rw[if_pos h1];exact h
 rw[if_neg h1];by_cases h7:one.kind=7
 ·rw[if_pos h7];exact h
 rw[if_neg h7];by_cases h8:one.kind=8
 ·rw[if_pos h8];exact h
 rw[if_neg h8];by_cases hb:one.kind=3\/one.kind=4
 ·rw[if_pos hb]
  split
  ·exact h
  ·exact ha _ _ h Ha
 rw[if_neg hb];by_cases h5:one.kind=5
 ·rw[if_pos h5]
  split
  ·exact h
  ·rename_i m hm
   split
   ·exact h
   ·have:=ho m (List.mem_of_getLast? hm)
    exact ha _ _ (q7y _ _ hl h) ⟨hn,by show m<=N;omega⟩
 ·rw[if_neg h5]
  exact ha _ _ h Ha
theorem qw2(l:zU):(qba l).name.length<=l.length:=by
 have ha:∀(k:Nat) (n:zU),(qcc k n).name.length<=n.length:=fun k n=>by
  unfold qcc;split<;>split
  all_goals first|exact yg _|exact yH _
 unfold qba;split
 ·exact yH _
 ·split
  ·unfold qdc
   split
   ·exact yH _
   ·split
    ·split<;>exact yH _
    ·exact yH _
  ·split
   ·exact ha _ _
   ·refine yh (ha _ _) (yh (qiq _ _) ?_)
    rw[yM];omega
theorem zg4{t:zU}(hc:CtOk t c a)(h:∀p∈c.parts,PtB t.length p) :
  (∀d,c.step t a=.over d->∀p∈d.parts,PtB t.length p)/\(∀d b,c.step t a=.next d b->∀p∈d.parts,PtB t.length p):=by
 have hf:=hc.le;cases ha:(Go.Lib.cut (t.drop a) c.op).2.2 with
 |false=>
   rw[qmh ha];refine⟨fun d e=>?_,fun d b e=>(by cases e)⟩;injection e with e;subst e;exact qzk h
 |true=>
   obtain⟨i1,Hf,Hb,hg,Hc,Hg⟩:=qj8 _ _ ha;rw[yM]at Hb;cases Ha:(Go.Lib.cut (Go.Lib.cut (t.drop a) c.op).2.1 c.cl).2.2 with
   |false=>
     rw[qgt ha Ha];exact⟨fun d e=>(by cases e),fun d b e=>(by cases e)⟩
   |true=>
     obtain⟨i2,hi,he,Hi,hj,Hj⟩:=qj8 _ _ Ha;rw[Hc,yM,yM]at he;obtain⟨one,h1⟩:∃one,qba (Go.Lib.trimS (Go.Lib.cut (Go.Lib.cut (t.drop a) c.op).2.1 c.cl).1 qag)=one:=⟨_,rfl⟩;have hn:=qw2 (Go.Lib.trimS (Go.Lib.cut (Go.Lib.cut (t.drop a) c.op).2.1 c.cl).1 qag);have hk:(Go.Lib.trimS (Go.Lib.cut (Go.Lib.cut (t.drop a) c.op).2.1 c.cl).1 qag).length<=t.length:=by
      refine yh (qpy _ _).length_le ?_;omega
     rw[h1]at hn;generalize hO:(if one.kind≠2 then qel t (a+(Go.Lib.cut (t.drop a) c.op).1.length) (a+(Go.Lib.cut (t.drop a) c.op).1.length+c.op.length+(Go.Lib.cut (Go.Lib.cut (t.drop a) c.op).2.1 c.cl).1.length+c.cl.length)else(a+(Go.Lib.cut (t.drop a) c.op).1.length,a+(Go.Lib.cut (t.drop a) c.op).1.length+c.op.length+(Go.Lib.cut (Go.Lib.cut (t.drop a) c.op).2.1 c.cl).1.length+c.cl.length))=o;rw[qpa ha Ha one h1 _ _ rfl rfl o hO];have He:o.1<=a+(Go.Lib.cut (t.drop a) c.op).1.length:=by
      subst hO;split
      ·exact(qqx _ _ _ (by omega) (by omega)).1
      ·exact yg _
     have hb:=qin hc o.1 (a+(Go.Lib.cut (t.drop a) c.op).1.length) (by omega) He (by omega);refine⟨fun d e=>?_,fun d b e=>?_⟩
     ·split at e<;>cases e
     ·split at e
      ·cases e
      ·injection e with e1 e2
       subst e1;exact zgz (qzk h) (by omega) (yh hb.few hb.le) hb.wf.lt
theorem go_b(t:zU):∀(n:Nat) (c:Ct) (a:Nat),CtOk t c a->(∀p∈c.parts,PtB t.length p)->∀p∈(Ct.go t n c a).2,PtB t.length p:=by
 intro n
 induction n with
 |zero=>intro c a _ _ p hp;cases hp
 |succ n ih=>
   intro c a hc h;obtain⟨h2,h3⟩:=zg4 hc h;unfold Ct.go;cases hs:c.step t a with
   |slip k p=>intro p hp;cases hp
   |over d=>exact h2 d hs
   |next d b=>exact ih d b (qhj hc hs).1 (h3 d b hs)
theorem zdg(t:zU)(h:(qam t).1.1=0):t.length<=2000/\∀p∈(qam t).2,PtB t.length p:=by
 have hg:=go_b t (t.length+1) Ct.start 0 (qik t) (fun p hp=>by cases hp)
 unfold qam at h |-;split at h
 ·cases h
 ·rename_i h1
  refine⟨by omega,?_⟩;rw[if_neg h1];split
  ·exact hg
  ·intro p hp;cases hp
variable{x y z:Sx}{n:Nat}
def ext(n w:zU):zU:=w.foldl qc8 n
theorem qnv(n u w:zU):ext n (u++w)=ext (ext n u) w:=by simp[ext]
def Sx.app(x:Sx)(w:zU):Sx:=⟨{ x.st with name:=ext x.st.name w },x.ma⟩
theorem qia(x:Sx)(u w:zU):(x.app u).app w=x.app (u++w):=by
 unfold Sx.app;simp only[qnv]
structure Nam(x:Sx):Prop where
 mode:x.st.mode=3\/x.st.mode=5
 kind:x.st.kind=0
 ma:x.ma=Mk.none
theorem Nam.app(h:Nam x)(w:zU):Nam (x.app w):=⟨h.mode,h.kind,h.ma⟩
structure Kin(x y:Sx):Prop where
 nam:Nam x
 eq:y=⟨{ x.st with name:=y.st.name },x.ma⟩
 len:x.st.name.length=y.st.name.length
 el:∀w,qaw (ext x.st.name w)=qaw (ext y.st.name w)
 ki:∀w,qc1 (ext x.st.name w)=qc1 (ext y.st.name w)
theorem q09{n m:zU}(b:UInt8)(h:n.length=m.length):(qc8 n b).length=(qc8 m b).length:=by
 unfold qc8;rw[h];split
 ·exact h
 ·rw[yJ,yJ,h]
theorem zc3(w:zU):∀ {n m:zU},n.length=m.length->(ext n w).length=(ext m w).length:=by
 induction w with
 |nil=>intro n m h;exact h
 |cons b w ih=>intro n m h;exact ih (q09 b h)
theorem Kin.app(h:Kin x y)(w:zU):Kin (x.app w) (y.app w):=by
 refine⟨h.nam.app w,?_,zc3 w h.len,fun u=>?_,fun u=>?_⟩
 ·have:=h.eq
  unfold Sx.app;rw[this]
 ·show qaw (ext (ext _ _) _)=qaw (ext (ext _ _) _)
  rw[<-qnv,<-qnv];exact h.el _
 ·show qc1 (ext (ext _ _) _)=qc1 (ext (ext _ _) _)
  rw[<-qnv,<-qnv];exact h.ki _
theorem qqr{m:Nat}(h:m=3\/m=5)(b:UInt8):qa2.getD m false=false/\qbx m b=m/\¬ 19<=m:=by
 rcases h with rfl|rfl<;>exact⟨rfl,by unfold qbx;rw[if_neg (fun q=>q.2 rfl)],by omega⟩
theorem q07(h:Nam x)(b:UInt8):x.behind b=Sx.led x (qdg x.st.mode b) b:=by
 obtain⟨q1,q2,q3⟩:=qqr h.mode b;rw[qrn x b _ _ (fun q=>q3 q.1) (by rw[q1];rfl) q2 rfl];unfold St.nowRead;rw[if_neg q3]
theorem qu3(h:Nam x)(b:UInt8)(hl:qdg x.st.mode b=x.st.mode):x.behind b=x.app [b]:=by
 rw[q07 h b,hl];obtain⟨⟨m,n,e,k,r,c⟩,K⟩:=x;obtain⟨hm,hk,hK⟩:=h;simp only at hm hk hK;subst hk hK;unfold Sx.led St.led qms Sx.app;simp only[if_true];rcases hm with rfl|rfl
 ·rfl
 ·rfl
theorem zfv(h:Kin x y)(b:UInt8)(hl:qdg x.st.mode b≠x.st.mode):x.behind b=y.behind b:=by
 have hy:Nam y:=by have:=h.eq;rw[this];exact⟨h.nam.mode,h.nam.kind,h.nam.ma⟩
 rw[q07 h.nam b,q07 hy b];have he:=h.el [];have hk:=h.ki [];have hq:=h.eq;generalize y.st.name=n' at he hk hq;subst hq;obtain⟨⟨m,n,e,k,r,c⟩,K⟩:=x;simp only at hl he hk |-;change qaw n=qaw n' at he;change qc1 n=qc1 n' at hk;generalize qdg m b=t at hl;have hn:¬(t=m/\t≠34):=fun q=>hl q.1;unfold Sx.led qms St.led St.named;simp only[if_neg hl,if_neg hn,he,hk]
theorem qmq(h:Nam x):x.behindHole=x:=by
 unfold Sx.behindHole;refine if_neg (fun q=>?_);have:=(qdy q.1).1;have:=h.mode;omega
def al(m:Nat):zU->zU×Bool
 |[]=>([],true)
 |b::t=>if qdg m b=m then(b::(al m t).1,(al m t).2)else([],false)
theorem zdr(m:Nat):∀t,(al m t).2=true->(al m t).1=t
 |[],_=>rfl
 |b::t,h=>by
   unfold al at h |-;split
   ·next q=>rw[if_pos q]at h;simp only;rw[zdr m t h]
   ·next q=>rw[if_neg q]at h;cases h
theorem qtz{m:Nat}:∀(t:zU) (x:Sx),Nam x->x.st.mode=m->(al m t).2=true->qax x t=x.app t
 |[],x,_,_,_=>rfl
 |b::t,x,hx,hm,h=>by
   unfold al at h;by_cases q:qdg m b=m
   ·rw[if_pos q]at h
    show qax (x.behind b) t=_;rw[qu3 hx b (by rw[hm];exact q),qtz t _ (hx.app _) hm h,qia];rfl
   ·rw[if_neg q]at h;cases h
theorem zgm{m:Nat}:∀(t:zU) (x y:Sx),Kin x y->x.st.mode=m->(al m t).2=false->qax x t=qax y t
 |[],x,y,_,_,h=>by cases h
 |b::t,x,y,hx,hm,h=>by
   unfold al at h;show qax (x.behind b) t=qax (y.behind b) t;by_cases q:qdg m b=m
   ·rw[if_pos q]at h
    have hy:Nam y:=by have:=hx.eq;rw[this];exact⟨hx.nam.mode,hx.nam.kind,hx.nam.ma⟩
    have ha:y.st.mode=m:=by rw[<-hm];exact yE (fun z=>z.st.mode) hx.eq
    rw[qu3 hx.nam b (by rw[hm];exact q),qu3 hy b (by rw[ha];exact q)];exact zgm t _ _ (hx.app _) hm h
   ·rw[zfv hx b (by rw[hm];exact q)]
inductive It where
 |tx (t:zU)
 |ho
 |ca (n:Nat)
def go(o:Nat->Sx->Option Sx):List It->Sx->Option Sx
 |[],x=>some x
 |.tx t::l,x=>go o l (qax x t)
 |.ho::l,x=>go o l x.behindHole
 |.ca n::l,x=>match o n x with
   |some y=>go o l y
   |none=>none
def fin(B:Nat->List It):Nat->Nat->Sx->Option Sx
 |0,_,_=>none
 |h+1,n,x=>go (fin B h) (B n) x
theorem qj2{o o':Nat->Sx->Option Sx}(h:∀n x y,o n x=some y->o' n x=some y):∀(l:List It) (x y:Sx),go o l x=some y->go o' l x=some y
 |[],_,_,q=>q
 |.tx _::l,_,_,q=>qj2 h l _ _ q
 |.ho::l,_,_,q=>qj2 h l _ _ q
 |.ca n::l,x,y,q=>by
   unfold go at q |-;cases hz:o n x with
   |none=>rw[hz]at q;cases q
   |some z=>rw[hz]at q;rw[h n x z hz];exact qj2 h l _ _ q
theorem q3k(B:Nat->List It):∀(h n:Nat) (x y:Sx),fin B h n x=some y->fin B (h+1) n x=some y
 |0,_,_,_,q=>by cases q
 |h+1,n,x,y,q=>qj2 (q3k B h) (B n) x y q
theorem qpg(B:Nat->List It){h k:Nat}(hk:h<=k){n:Nat}{x y:Sx}(q:fin B h n x=some y):fin B k n x=some y:=by
 induction hk with
 |refl=>exact q
 |step _ ih=>exact q3k B _ _ _ _ ih
theorem qj3(o:Nat->Sx->Option Sx)(m:List It):∀(l:List It) (x:Sx),go o (l++m) x=(go o l x).bind (go o m)
 |[],_=>rfl
 |.tx _::l,_=>qj3 o m l _
 |.ho::l,_=>qj3 o m l _
 |.ca n::l,x=>by
   show go o (.ca n::(l++m)) x=_;unfold go;cases o n x with
   |none=>rfl
   |some z=>exact qj3 o m l z
def Via(B:Nat->List It)(l:List It)(x y:Sx):Prop:=∃h,go (fin B h) l x=some y
def Done(B:Nat->List It)(n:Nat)(x y:Sx):Prop:=∃h,fin B h n x=some y
theorem za5{B:Nat->List It}(h:Via B (B n) x y):Done B n x y:=h.elim fun k q=>⟨k+1,q⟩
theorem zeq(B:Nat->List It)(x:Sx):Via B [] x x:=⟨0,rfl⟩
theorem qpq{B:Nat->List It}{l m:List It}(h:Via B l x y)(h':Via B m y z):Via B (l++m) x z:=by
 obtain⟨a,q⟩:=h;obtain⟨b,q'⟩:=h';refine⟨max a b,?_⟩;rw[qj3,qj2 (fun n x y=>qpg B (Nat.le_max_left a b)) _ _ _ q];exact qj2 (fun n x y=>qpg B (Nat.le_max_right a b)) _ _ _ q'
theorem zgs(B:Nat->List It)(t:zU)(x:Sx):Via B [.tx t] x (qax x t):=⟨0,rfl⟩
theorem zgt(B:Nat->List It)(x:Sx):Via B [.ho] x x.behindHole:=⟨0,rfl⟩
theorem q64{B:Nat->List It}(h:Done B n x y):Via B [.ca n] x y:=h.elim fun k q=>⟨k,by unfold go;rw[q];rfl⟩
theorem qwd{B:Nat->List It}{l:List It}(h:Via B l x y)(h':Via B l x z):y=z:=by
 obtain⟨a,q⟩:=h;obtain⟨b,q'⟩:=h';have e:=qj2 (fun n x y=>qpg B (Nat.le_max_left a b)) _ _ _ q;have e':=qj2 (fun n x y=>qpg B (Nat.le_max_right a b)) _ _ _ q';exact yk (e.symm.trans e')
def cat(p q:zU×Bool):zU×Bool:=if p.2=true then(p.1++q.1,q.2)else p
def wgo(oW:Nat->zU×Bool)(m:Nat):List It->zU×Bool
 |[]=>([],true)
 |.tx t::l=>cat (al m t) (wgo oW m l)
 |.ho::l=>wgo oW m l
 |.ca n::l=>cat (oW n) (wgo oW m l)
def wd(B:Nat->List It)(m:Nat):Nat->Nat->zU×Bool
 |0,_=>([],false)
 |h+1,n=>wgo (wd B m h) m (B n)
def Le(p q:zU×Bool):Prop:=p.1 <+: q.1/\(p.2=true->q=p)
theorem Le.refl(p:zU×Bool):Le p p:=⟨yA _,fun _=>rfl⟩
theorem Le.trans{p q r:zU×Bool}(h:Le p q)(k:Le q r):Le p r:=⟨h.1.trans k.1,fun e=>by
 have:=h.2 e;subst this;exact k.2 e⟩
theorem Le.cat{p p' q q':zU×Bool}(h:Le p p')(k:Le q q'):Le (cat p q) (cat p' q'):=by
 unfold Pl.cat;by_cases e:p.2=true
 ·have:=h.2 e
  subst this;rw[if_pos e,if_pos e];exact⟨(List.prefix_append_right_inj _).2 k.1,fun z=>by have:=k.2 z;subst this;rfl⟩
 ·rw[if_neg e]
  refine⟨?_,fun z=>absurd z e⟩;split
  ·exact h.1.trans (List.prefix_append _ _)
  ·exact h.1
theorem qma{m:Nat}{o o':Nat->zU×Bool}(h:∀n,Le (o n) (o' n)):∀l:List It,Le (wgo o m l) (wgo o' m l)
 |[]=>Le.refl _
 |.tx _::l=>(Le.refl _).cat (qma h l)
 |.ho::l=>qma h l
 |.ca n::l=>(h n).cat (qma h l)
theorem q60(B:Nat->List It)(m:Nat):∀h n:Nat,Le (wd B m h n) (wd B m (h+1) n)
 |0,_=>⟨List.nil_prefix,fun q=>by cases q⟩
 |h+1,n=>qma (q60 B m h) (B n)
theorem qt8(B:Nat->List It)(m:Nat){h k:Nat}(hk:h<=k)(n:Nat):Le (wd B m h n) (wd B m k n):=by
 induction hk with
 |refl=>exact Le.refl _
 |step _ ih=>exact ih.trans (q60 B m _ n)
theorem qy5(p q r:zU×Bool):cat p (cat q r)=cat (cat p q) r:=by
 unfold cat;by_cases a:p.2=true
 ·by_cases b:q.2=true
  ·simp[a,b]
  ·simp[a,b]
 ·simp[a]
theorem qkh(o:Nat->zU×Bool)(m:Nat)(k:List It):∀l:List It,wgo o m (l++k)=cat (wgo o m l) (wgo o m k)
 |[]=>by simp[wgo,cat]
 |.tx t::l=>by
   show cat _ (wgo o m (l++k))=cat (cat _ _) _;rw[qkh o m k l,qy5]
 |.ho::l=>qkh o m k l
 |.ca n::l=>by
   show cat _ (wgo o m (l++k))=cat (cat _ _) _;rw[qkh o m k l,qy5]
theorem zhf(B:Nat->List It)(m:Nat):∀(h:Nat) (l:List It) (x y:Sx),Kin x y->x.st.mode=m->∀x',go (fin B h) l x=some x' ->
  ∃y',go (fin B h) l y=some y'/\(x'=y'\/∃w,wgo (wd B m h) m l=(w,true)/\x'=x.app w/\y'=y.app w):=by
 intro h
 induction h with
 |zero=>
   intro l
   induction l with
   |nil=>intro x y _ _ x' q;injection q with q;subst q;exact⟨y,rfl,.inr ⟨[],rfl,rfl,rfl⟩⟩
   |cons i l ih=>
     intro x y hk hm x' q;cases i with
     |tx t=>
       cases ha:(al m t).2
       ·have:=zgm t x y hk hm ha
        have q:go (fin B 0) l (qax x t)=some x':=q;exact⟨x',by show go _ l (qax y t)=_;rw[<-this];exact q,.inl rfl⟩
       ·have hy:Nam y:=by have:=hk.eq;rw[this];exact⟨hk.nam.mode,hk.nam.kind,hk.nam.ma⟩
        have Ha:y.st.mode=m:=by rw[<-hm];exact yE (fun z=>z.st.mode) hk.eq
        have q:go (fin B 0) l (qax x t)=some x':=q;rw[qtz t x hk.nam hm ha]at q;obtain⟨y',q1,q2⟩:=ih _ _ (hk.app t) hm x' q;refine⟨y',by show go _ l (qax y t)=_;rw[qtz t y hy Ha ha];exact q1,q2.imp id ?_⟩;rintro⟨w,e1,e2,e3⟩;exact⟨t++w,by show cat _ _=_;rw[e1];unfold cat;rw[if_pos ha,zdr m t ha],by rw[e2,qia],by rw[e3,qia]⟩
     |ho=>
       have hy:Nam y:=by have:=hk.eq;rw[this];exact⟨hk.nam.mode,hk.nam.kind,hk.nam.ma⟩
       have q:go (fin B 0) l x.behindHole=some x':=q;rw[qmq hk.nam]at q;obtain⟨y',q1,q2⟩:=ih x y hk hm x' q;exact⟨y',by show go _ l y.behindHole=_;rw[qmq hy];exact q1,q2⟩
     |ca n=>cases q
 |succ h ihh=>
   intro l
   induction l with
   |nil=>intro x y _ _ x' q;injection q with q;subst q;exact⟨y,rfl,.inr ⟨[],rfl,rfl,rfl⟩⟩
   |cons i l ih=>
     intro x y hk hm x' q;have hy:Nam y:=by have:=hk.eq;rw[this];exact⟨hk.nam.mode,hk.nam.kind,hk.nam.ma⟩
     have Ha:y.st.mode=m:=by rw[<-hm];exact yE (fun z=>z.st.mode) hk.eq
     cases i with
     |tx t=>
       cases ha:(al m t).2
       ·have:=zgm t x y hk hm ha
        have q:go (fin B (h+1)) l (qax x t)=some x':=q;exact⟨x',by show go _ l (qax y t)=_;rw[<-this];exact q,.inl rfl⟩
       ·have q:go (fin B (h+1)) l (qax x t)=some x':=q
        rw[qtz t x hk.nam hm ha]at q;obtain⟨y',q1,q2⟩:=ih _ _ (hk.app t) hm x' q;refine⟨y',by show go _ l (qax y t)=_;rw[qtz t y hy Ha ha];exact q1,q2.imp id ?_⟩;rintro⟨w,e1,e2,e3⟩;exact⟨t++w,by show cat _ _=_;rw[e1];unfold cat;rw[if_pos ha,zdr m t ha],by rw[e2,qia],by rw[e3,qia]⟩
     |ho=>
       have q:go (fin B (h+1)) l x.behindHole=some x':=q;rw[qmq hk.nam]at q;obtain⟨y',q1,q2⟩:=ih x y hk hm x' q;exact⟨y',by show go _ l y.behindHole=_;rw[qmq hy];exact q1,q2⟩
     |ca n=>
       unfold go at q;cases hz:fin B (h+1) n x with
       |none=>rw[hz]at q;cases q
       |some z=>
         rw[hz]at q;have q:go (fin B (h+1)) l z=some x':=q;obtain⟨z',r1,r2⟩:=ihh (B n) x y hk hm z hz;have r1:fin B (h+1) n y=some z':=r1;rcases r2 with rfl|⟨w,e1,rfl,rfl⟩
         ·exact⟨x',by unfold go;rw[r1];exact q,.inl rfl⟩
         ·obtain⟨y',q1,q2⟩:=ih _ _ (hk.app w) hm x' q
          refine⟨y',by unfold go;rw[r1];exact q1,q2.imp id ?_⟩;rintro⟨u,f1,f2,f3⟩;refine⟨w++u,?_,by rw[f2,qia],by rw[f3,qia]⟩;show cat (wd B m (h+1) n) _=_;have e1:wd B m (h+1) n=(w,true):=e1;rw[e1,f1];rfl
variable{x:Sx}
structure Fitn(x:Sx):Prop where
 fit:SxFit x
 nam:x.st.mode=3\/x.st.mode=5->x.st.kind=0/\x.ma=Mk.none
theorem q54:Fitn Sx.start:=⟨qmi,fun h=>by revert h;decide⟩
theorem qpm(n:zU):(qad n).mode≠3/\(qad n).mode≠5:=by
 unfold qad;split
 ·exact⟨by simp,by simp⟩
 ·show qav n≠3/\qav n≠5
  unfold qav
  repeat' split
  all_goals omega
theorem q1p(b:UInt8)(h:Fitn x):Fitn (x.behind b):=by
 refine⟨qtv b h.fit,?_⟩;by_cases he:19<=x.st.mode/\x.st.ends b=true
 ·rw[q3x x b he.1 he.2];intro _;exact⟨rfl,rfl⟩
 by_cases hq:(qa2.getD x.st.mode false && (x.st.esc || b==92))=true
 ·rw[qy7 x b he hq]
  intro hm;rw[yL]at hq;rcases hm with hm|hm
  ·have hm:x.st.mode=3:=hm
   rw[hm]at hq;exact absurd hq.1 (by decide)
  ·have hm:x.st.mode=5:=hm
   rw[hm]at hq;exact absurd hq.1 (by decide)
 have hq:=ye.2 hq;have e:=qrn x b _ _ he hq rfl rfl;have hx:=h.nam;have hk:=qy9 b h.fit.ok.st;have e0:x.st.behind b=_:=yE Sx.st e;rw[e0]at hk;have hk:((St.mk (qbx x.st.mode b) x.st.name x.st.elem x.st.kind (x.st.nowRead b) x.st.esc).led (qdg x.st.mode b) b).Ok:=hk;have hb:qbx x.st.mode b=x.st.mode\/qbx x.st.mode b=qhm x.st.mode:=by unfold qbx;split<;>simp
 have Hb:qhm x.st.mode≠3/\qhm x.st.mode≠5:=by
  have hc:=h.fit.ok.st.hi;have:∀m,m<=33->qhm m≠3/\qhm m≠5:=by decide
  exact this _ hc
 rw[e];generalize qbx x.st.mode b=r at hb hk |-;generalize qdg x.st.mode b=t at hk |-;clear e0 e;intro hm;have ha:((St.mk r x.st.name x.st.elem x.st.kind (x.st.nowRead b) x.st.esc).led t b).mode=3\/((St.mk r x.st.name x.st.elem x.st.kind (x.st.nowRead b) x.st.esc).led t b).mode=5:=hm;by_cases Ha:t=34
 ·exfalso
  subst Ha;have hw:∀s:St,(s.led1 34 b)=qad s.elem:=by
   intro s;unfold St.led1;rw[if_neg (by decide),if_neg (by decide),if_neg (by decide),if_pos rfl]
  unfold St.led at ha;split at ha
  all_goals
   rw[hw]at ha;rcases ha with q|q
   ·exact(qpm _).1 q
   ·exact(qpm _).2 q
 have hf:=zcf (St.mk r x.st.name x.st.elem x.st.kind (x.st.nowRead b) x.st.esc) t b Ha;rw[hf.1]at ha;have Hc:qms ⟨r,x.st.name,x.st.elem,x.st.kind,x.st.nowRead b,x.st.esc⟩ x.ma t b=Mk.none:=by
  unfold qms;split
  ·next q=>
   have hr:r=t:=q.1.symm;have He:x.st.mode=3\/x.st.mode=5:=by
    rcases hb with z|z
    ·omega
    ·exact absurd z (by have:=Hb.1;have:=Hb.2;omega)
   obtain⟨z1,z2⟩:=hx He;have Hf:r=3\/r=5:=by omega
   simp only;rw[z1,z2];rcases Hf with rfl|rfl<;>rfl
  ·rfl
 refine⟨?_,Hc⟩;show((St.mk r x.st.name x.st.elem x.st.kind (x.st.nowRead b) x.st.esc).led t b).kind=0;rw[qva _ _ _ Ha];rcases ha with rfl|rfl
 ·have:=hk.bare
  rw[hf.1]at this;rw[<-qva _ 3 _ Ha];exact(this (.inl (by omega))).2
 ·rw[if_pos (.inr (.inl rfl))]
theorem q9o(h:Fitn x):Fitn x.behindHole:=by
 refine⟨qmy h.fit,?_⟩;unfold Sx.behindHole;split
 ·next q=>
  intro hm;have:=(qdy q.1).1;have hm:x.st.mode=3\/x.st.mode=5:=hm;omega
 ·exact h.nam
theorem Fitn.na(h:Fitn x)(hm:x.st.mode=3\/x.st.mode=5):Nam x:=⟨hm,(h.nam hm).1,(h.nam hm).2⟩
theorem mix(k:Nat){a b a' b':Nat}(h:a*k+b=a'*k+b')(hb:b<k)(ha:b'<k):a=a'/\b=b':=by
 have e:b=b':=by
  have h1:(a*k+b) % k=b:=by rw[Nat.mul_comm,Nat.mul_add_mod,Nat.mod_eq_of_lt hb]
  have h2:(a'*k+b') % k=b':=by rw[Nat.mul_comm,Nat.mul_add_mod,Nat.mod_eq_of_lt ha]
  rw[<-h1,h,h2]
 subst e;exact⟨Nat.eq_of_mul_eq_mul_right (by omega) (by omega:a*k=a'*k),rfl⟩
theorem mix8{a b c d e f g i a' b' c' d' e' f' g' i':Nat}(h:((((((a*5+b)*12+c)*2+d)*2+e)*6+f)*3+g)*4+i=((((((a'*5+b')*12+c')*2+d')*2+e')*6+f')*3+g')*4+i')
  (hb:b<5/\b'<5) (hc:c<12/\c'<12) (hd:d<2/\d'<2) (he:e<2/\e'<2) (hf:f<6/\f'<6) (hg:g<3/\g'<3) (hi:i<4/\i'<4) :
  a=a'/\b=b'/\c=c'/\d=d'/\e=e'/\f=f'/\g=g'/\i=i':=by
 obtain⟨h,q8⟩:=mix 4 h hi.1 hi.2;obtain⟨h,q7⟩:=mix 3 h hg.1 hg.2;obtain⟨h,q6⟩:=mix 6 h hf.1 hf.2;obtain⟨h,q5⟩:=mix 2 h he.1 he.2;obtain⟨h,q4⟩:=mix 2 h hd.1 hd.2;obtain⟨h,q3⟩:=mix 12 h hc.1 hc.2;obtain⟨q1,q2⟩:=mix 5 h hb.1 hb.2;exact⟨q1,q2,q3,q4,q5,q6,q7,q8⟩
def q2h:List zU:=[qd1,qg0,qcx,qcz,[104,114,101,102],[115,114,99],[97,99,116,105,111,110],[111,110]]
def qdh:List zU:=q2h.flatMap fun w=>(List.range (w.length+1)).map fun k=>w.take k
theorem qni{n w:zU}(hw:w∈q2h)(h:n <+: w):n∈qdh:=
 List.mem_flatMap.2 ⟨w,hw,xt.2 ⟨n.length,xh.2 (by have:=h.length_le;omega),(List.prefix_iff_eq_take.1 h).symm⟩⟩
def qoz(n:zU):Bool:=[111,110].isPrefixOf n
def idx(n:zU):Nat:=qdh.findIdx (·== n)
theorem q9e(n:zU):idx n<48:=Nat.lt_succ_of_le (yh List.findIdx_le_length (by decide))
theorem q1j{n:zU}(h:n∈qdh):qdh[idx n]?=some n:=by
 have hl:idx n<qdh.length:=List.findIdx_lt_length_of_exists ⟨n,h,by simp⟩;have:=List.findIdx_getElem (w:=hl);rw[yc hl];exact yE some (yF.1 this)
theorem q9d{n:zU}(h:n∉qdh):qdh[idx n]?=none:=by
 refine yd ?_;rcases Nat.lt_or_ge (idx n) qdh.length with hl|hl
 ·have:=List.findIdx_getElem (w:=hl)
  exact absurd (yF.1 this▸List.getElem_mem hl) h
 ·exact hl
def zdj(n:zU):Nat:=(n.length*48+idx n)*2+(qoz n).toNat
theorem q9t(w:zU):∀n:zU,n <+: ext n w:=by
 induction w with
 |nil=>intro n;exact yA _
 |cons b w ih=>
   intro n;refine List.IsPrefix.trans ?_ (ih (qc8 n b));unfold qc8;split
   ·exact yA _
   ·exact List.prefix_append _ _
theorem qqq{n w:zU}(h:n∉qdh)(u:zU)(hw:w∈q2h):ext n u≠w:=fun e=>h (qni hw (e▸q9t u n))
theorem zed{n:zU}(h:n∉qdh)(w:zU):qaw (ext n w)=[]:=by
 unfold qaw;refine if_neg ?_;rintro(e|e|e|e)
 all_goals exact qqq h w (by decide) e
theorem zg9{n:zU}(h:n∉qdh)(w:zU):qoz (ext n w)=qoz n:=by
 obtain⟨r,hr⟩:=q9t w n;rw[<-hr]
 match n,h with
 |[],h=>exact absurd (qni (w:=qd1) (by decide) List.nil_prefix) h
 |[a],h=>
   have ha:a≠111:=fun e=>h (by rw[e];exact qni (w:=[111,110]) (by decide) ⟨[110],rfl⟩);unfold qoz;simp[List.isPrefixOf,beq_eq_false_iff_ne.2 (Ne.symm ha)]
 |a::b::t,h=>unfold qoz;simp[List.isPrefixOf]
theorem zea{n:zU}(h:n∉qdh)(w:zU):qc1 (ext n w)=if qoz n=true then 2 else 0:=by
 rw[<-zg9 h w];have hw:∀v∈q2h,(v==ext n w)=false:=fun v hv=>yf.2 (fun e=>qqq h w hv e.symm);have h1:=hw [104,114,101,102] (by decide);have h2:=hw [115,114,99] (by decide);have h3:=hw [97,99,116,105,111,110] (by decide);have h4:=hw qcz (by decide);have h5:=hw [111,110] (by decide);generalize ext n w=z at *;unfold qc1 qdu;simp only[List.find?,qbc,h1,h2,h3,h4,h5,Bool.false_or,Bool.false_and,Bool.true_and];unfold qoz;cases hz:[111,110].isPrefixOf z<;>simp
def kr(s:St):Nat:=if s.mode<19 then(s.kind+3).toNat else s.read
def zdk(x:Sx):Nat:=((((((x.st.mode*5+qcu x.st.elem)*12+kr x.st)*2+x.st.esc.toNat)*2+x.ma.ref.toNat)*6+x.ma.hex.toNat)*3+x.ma.pct.toNat)*4+x.ma.far.toNat
def cls2(x:Sx):Nat:=if x.st.mode=3\/x.st.mode=5 then 587520+(x.st.mode / 5*5+qcu x.st.elem)*960+zdj x.st.name else zdk x
theorem qhh(n:zU):qcu n<5:=by
 unfold qcu
 repeat' split
 all_goals omega
theorem zft{s:St}(h:s.Ok):kr s<12:=by
 unfold kr;have h1:=h.wrap;have h2:=h.read;have h3:=qks h.elem;unfold St.ending at h2;simp only[yK]at h2;split<;>omega
theorem qgq(b:Bool):b.toNat<2:=by cases b<;>decide
theorem qvz(h:Fitn x):zdk x<587520:=by
 unfold zdk;have h1:=h.fit.ok.st.hi;have h2:=qhh x.st.elem;have h3:=zft h.fit.ok.st;have h4:=qgq x.st.esc;have h5:=qgq x.ma.ref;have h6:=h.fit.ok.ma.hex;have h7:=h.fit.ok.ma.pct;have h8:=h.fit.far;omega
theorem qvy{n:zU}(h:n.length<=9):zdj n<960:=by
 unfold zdj;have:=q9e n;have:=qgq (qoz n);omega
theorem q18(h:Fitn x):cls2 x<597120:=by
 unfold cls2;split
 ·next q=>
  have h2:=qhh x.st.elem;have h3:=qvy h.fit.ok.st.name;have:x.st.mode / 5<=1:=by rcases q with q|q<;>rw[q]<;>decide
  omega
 ·have:=qvz h;omega
theorem zhc{y:Sx}(hx:Fitn x)(hy:Fitn y)(h:cls2 x=cls2 y):x=y\/Kin x y:=by
 have ox:=hx.fit.ok.st;have oy:=hy.fit.ok.st;unfold cls2 at h;by_cases nx:x.st.mode=3\/x.st.mode=5
 ·by_cases ny:y.st.mode=3\/y.st.mode=5
  ·rw[if_pos nx,if_pos ny]at h
   have c1:=qvy ox.name;have c2:=qvy oy.name;obtain⟨h,hn⟩:=mix 960 (a:=x.st.mode / 5*5+qcu x.st.elem) (a':=y.st.mode / 5*5+qcu y.st.elem) (by omega) c1 c2;obtain⟨hm,he⟩:=mix 5 h (qhh _) (qhh _);have hm:y.st.mode=x.st.mode:=by rcases nx with q|q<;>rcases ny with r|r<;>rw[q,r]at hm<;>omega
   have he:y.st.elem=x.st.elem:=(qnz ox.elem oy.elem he).symm;unfold zdj at hn;obtain⟨hn,ho⟩:=mix 2 hn (qgq _) (qgq _);obtain⟨hl,hi⟩:=mix 48 hn (q9e _) (q9e _);have ho:qoz x.st.name=qoz y.st.name:=by revert ho;cases qoz x.st.name<;>cases qoz y.st.name<;>simp
   have nmx:=hx.na nx;have nmy:=hy.na ny;have hr:y.st.read=x.st.read:=by rw[ox.low (by omega),oy.low (by omega)]
   have hc:y.st.esc=x.st.esc:=by
    rw[ox.calm (qqr nx 0).1,oy.calm (qqr ny 0).1]
   have hq:y=⟨{ x.st with name:=y.st.name },x.ma⟩:=by
    have k1:=nmx.kind;have k2:=nmy.kind;have k3:=nmx.ma;have k4:=nmy.ma;obtain⟨⟨m,n,e,k,r,c⟩,K⟩:=x;obtain⟨⟨m',n',e',k',r',c'⟩,K'⟩:=y;simp only at hm he hr hc k1 k2 k3 k4 |-;rw[hm,he,hr,hc,k1,k2,k3,k4]
   by_cases hs:x.st.name∈qdh
   ·have g1:=q1j hs
    rw[hi]at g1;have ha:y.st.name∈qdh:=by
     by_cases z:y.st.name∈qdh
     ·exact z
     ·rw[q9d z]at g1;cases g1
    rw[q1j ha]at g1;have e:y.st.name=x.st.name:=yk g1;left;rw[hq,e]
   ·have ha:y.st.name∉qdh:=by
     intro z;have g1:=q1j z;rw[<-hi,q9d hs]at g1;cases g1
    exact .inr ⟨nmx,hq,hl,fun w=>by rw[zed hs,zed ha],fun w=>by rw[zea hs,zea ha,ho]⟩
  ·rw[if_pos nx,if_neg ny]at h
   have:=qvz hy;omega
 ·by_cases ny:y.st.mode=3\/y.st.mode=5
  ·rw[if_neg nx,if_pos ny]at h
   have:=qvz hx;omega
  ·rw[if_neg nx,if_neg ny]at h
   left;unfold zdk at h;have a1:=hx.fit.far;have a2:=hy.fit.far;have a3:=hx.fit.ok.ma.pct;have a4:=hy.fit.ok.ma.pct;have a5:=hx.fit.ok.ma.hex;have a6:=hy.fit.ok.ma.hex;obtain⟨q1,q2,q3,q4,q5,q6,q7,q8⟩:=mix8 h ⟨qhh _,qhh _⟩ ⟨zft ox,zft oy⟩ ⟨qgq _,qgq _⟩ ⟨qgq _,qgq _⟩ (by omega) (by omega) (by omega);have e2:=qnz ox.elem oy.elem q2;have n1:=ox.named (fun z=>nx (.inl z)) (fun z=>nx (.inr z));have n2:=oy.named (fun z=>ny (.inl z)) (fun z=>ny (.inr z));have e4:x.st.esc=y.st.esc:=by revert q4;cases x.st.esc<;>cases y.st.esc<;>simp
   have e5:x.ma.ref=y.ma.ref:=by revert q5;cases x.ma.ref<;>cases y.ma.ref<;>simp
   have e3:x.st.kind=y.st.kind/\x.st.read=y.st.read:=by
    unfold kr at q3;rw[q1]at q3;have w1:=ox.wrap;have w2:=oy.wrap;by_cases hm:y.st.mode<19
    ·rw[if_pos hm,if_pos hm]at q3
     exact⟨by omega,by rw[ox.low (by omega),oy.low hm]⟩
    ·rw[if_neg hm,if_neg hm]at q3
     exact⟨by rw[(ox.high (by omega)).2,(oy.high (by omega)).2],q3⟩
   obtain⟨⟨m,n,e,k,r,c⟩,⟨f1,f2,f3,f4⟩⟩:=x;obtain⟨⟨m',n',e',k',r',c'⟩,⟨g1,g2,g3,g4⟩⟩:=y;simp only at *;have z6:f2=g2:=by omega
   have z7:f3=g3:=by omega
   have z8:f4=g4:=by omega
   rw[q1,n1,n2,e2,e3.1,e3.2,e4,e5,z6,z7,z8]
variable{B:Nat->List It}{k c:Nat}
abbrev Vt:=Nat×Sx
theorem zgo(B:Nat->List It)(m:Nat):∀(h:Nat) (l:List It) (x:Sx) (w:zU),Nam x->x.st.mode=m->wgo (wd B m h) m l=(w,true)->go (fin B h) l x=some (x.app w):=by
 have aux:∀(h:Nat),(∀(n:Nat) (x:Sx) (w:zU),Nam x->x.st.mode=m->wd B m h n=(w,true)->fin B h n x=some (x.app w)) ->
   ∀(l:List It) (x:Sx) (w:zU),Nam x->x.st.mode=m->wgo (wd B m h) m l=(w,true)->go (fin B h) l x=some (x.app w):=by
  intro h hf l
  induction l with
  |nil=>intro x w _ _ q;injection q with q _;subst q;rfl
  |cons i l ih=>
    intro x w hx hm q;have hc:∀(p r:zU×Bool),cat p r=(w,true)->p.2=true/\r.2=true/\w=p.1++r.1:=by
     intro p r e;unfold cat at e;by_cases z:p.2=true
     ·rw[if_pos z]at e;injection e with e1 e2;exact⟨z,e2,e1.symm⟩
     ·rw[if_neg z]at e;rw[e]at z;exact absurd rfl z
    cases i with
    |tx t=>
      obtain⟨q1,q2,rfl⟩:=hc _ _ q;show go _ l (qax x t)=_;rw[qtz t x hx hm q1,ih _ _ (hx.app t) hm (Prod.ext rfl q2),qia,zdr m t q1]
    |ho=>
      show go _ l x.behindHole=_;rw[qmq hx];exact ih x w hx hm q
    |ca n=>
      obtain⟨q1,q2,rfl⟩:=hc _ _ q;unfold go;rw[hf n x _ hx hm (Prod.ext rfl q1)];simp only;rw[ih _ _ (hx.app _) hm (Prod.ext rfl q2),qia]
 intro h
 induction h with
 |zero=>exact aux 0 (fun n x w _ _ q=>by cases q)
 |succ h ih=>exact aux (h+1) (fun n x w hx hm q=>ih (B n) x w hx hm q)
def Desc(B:Nat->List It)(b:Vt)(w:zU)(u:Vt):Prop:=
 u.2=b.2.app w/\((w=[]/\u.1=b.1)\/(Nam b.2/\∀h,∃h',w++(wd B b.2.st.mode h u.1).1 <+: (wd B b.2.st.mode h' b.1).1))
def zhu(B:Nat->List It)(x:Sx)(pre:List It):Prop:=¬(Nam x/\∃h w,wgo (wd B x.st.mode h) x.st.mode pre=(w,true))
structure Sub(B:Nat->List It)(n:Nat)(x:Sx)(k:Nat)(b:Vt):Prop where
 at_:(B n)[k]?=some (.ca b.1)
 via:Via B ((B n).take k) x b.2
def Cd(B:Nat->List It)(R:List Vt)(u:Vt)(c:Nat):Prop:=
 ∃b w cb,Desc B b w u/\u.1<6/\c=(cb*10+min w.length 9)*6+u.1/\b.2.st.name.length<=9 /\
   ((cb<300/\R[cb]?=some b)\/∃n x k,n<6/\k<2000/\Fitn x/\zhu B x ((B n).take k)/\Sub B n x k b/\cb=300+((n*597120+cls2 x)*2000+k))
def InS(B:Nat->List It)(R:List Vt)(u:Vt):Prop:=∃c,Cd B R u c
theorem zf4(w:zU):∀n:zU,n.length<=9->(ext n w).length=min (n.length+w.length) 9:=by
 induction w with
 |nil=>intro n h;show n.length=_;simp;omega
 |cons b w ih=>
   intro n h;show(ext (qc8 n b) w).length=_;unfold qc8;split
   ·next q=>rw[ih n h];simp only[yK];omega
   ·rw[ih _ (by rw[yJ];simp only[yK,yQ];omega)]
    simp only[yJ,yK,yQ];omega
theorem zc4(w:zU):∀n:zU,n.length=9->ext n w=n:=by
 induction w with
 |nil=>intro n _;rfl
 |cons b w ih=>intro n h;show ext (qc8 n b) w=n;unfold qc8;rw[if_pos h];exact ih n h
theorem q3m(n w:zU)(h:n.length<=9):ext n w=ext n (w.take 9):=by
 by_cases q:w.length<=9
 ·rw[yp q]
 ·have e:w=w.take 9++w.drop 9:=(yu 9 w).symm
  have e2:ext n w=ext (ext n (w.take 9)) (w.drop 9):=by rw[<-qnv,<-e]
  rw[e2];refine zc4 _ _ ?_;rw[zf4 _ _ h,yP];omega
theorem zbx{w w' r:zU}(h:w <+: r)(h':w' <+: r)(e:min w.length 9=min w'.length 9):w.take 9=w'.take 9:=by
 rw[List.prefix_iff_eq_take.1 h,List.prefix_iff_eq_take.1 h',List.take_take,List.take_take]
 congr 1
 omega
theorem zf9{b u u':Vt}{w w':zU}(hb:b.2.st.name.length<=9)(h:Desc B b w u)(h':Desc B b w' u')(e:min w.length 9=min w'.length 9):u.2=u'.2:=by
 rw[h.1,h'.1];have key:w.take 9=w'.take 9:=by
  rcases h.2 with⟨rfl,_⟩|⟨_,q⟩
  ·have:w'.length=0:=by simp at e;omega
   rw[yC this]
  ·rcases h'.2 with ⟨rfl,_⟩ | ⟨_,q'⟩
   ·have:min w.length 9=0:=e
    have:w.length=0:=by omega
    rw[yC this]
   ·obtain⟨a,p⟩:=q 0
    obtain⟨a',p'⟩:=q' 0;have m1:=(qt8 B b.2.st.mode (Nat.le_max_left a a') b.1).1;have m2:=(qt8 B b.2.st.mode (Nat.le_max_right a a') b.1).1;exact zbx ((List.prefix_append _ _).trans (p.trans m1)) ((List.prefix_append _ _).trans (p'.trans m2)) e
 unfold Sx.app;rw[q3m _ w hb,q3m _ w' hb,key]
theorem zg3{n:Nat}{x x':Sx}{b b':Vt}(hx:Fitn x)(ha:Fitn x')(hc:cls2 x=cls2 x')(hf:zhu B x ((B n).take k))(h:Sub B n x k b)(h':Sub B n x' k b'):b=b':=by
 have e1:b.1=b'.1:=by
  have:=h.at_.symm.trans h'.at_;injection this with this;injection this
 refine Prod.ext e1 ?_;rcases zhc hx ha hc with rfl|hk
 ·exact qwd h.via h'.via
 ·obtain⟨a,q⟩:=h.via
  obtain⟨y,q1,q2⟩:=zhf B x.st.mode a _ x x' hk rfl _ q;have e:=qwd ⟨a,q1⟩ h'.via;rcases q2 with q2|⟨w,q2,_⟩
  ·rw[q2,e]
  ·exact absurd ⟨hk.nam,a,w,q2⟩ hf
theorem zid{R:List Vt}{u u':Vt}(h:Cd B R u c)(h':Cd B R u' c):u=u':=by
 obtain⟨b,w,cb,hd,h6,hc,hl,hb⟩:=h;obtain⟨b',w',cb',Ha,Hb,Hc,He,ha⟩:=h';obtain⟨q,e1⟩:=mix 6 (hc.symm.trans Hc) h6 Hb;obtain⟨e2,e3⟩:=mix 10 q (Nat.lt_of_le_of_lt (Nat.min_le_right _ _) (by decide)) (Nat.lt_of_le_of_lt (Nat.min_le_right _ _) (by decide));subst e2;have he:b=b':=by
  rcases hb with⟨g1,g2⟩|⟨n,x,k,a1,a2,a3,a4,a5,a6⟩
  ·rcases ha with ⟨_,g4⟩ | ⟨n',x',k',_,_,_,_,_,z⟩
   ·exact yk (g2.symm.trans g4)
   ·omega
  ·rcases ha with ⟨g3,_⟩ | ⟨n',x',k',c1,c2,c3,c4,c5,c6⟩
   ·omega
   ·have z0:(n*597120+cls2 x)*2000+k=(n'*597120+cls2 x')*2000+k':=Nat.add_left_cancel (a6.symm.trans c6)
    obtain⟨z,ek⟩:=mix 2000 z0 a2 c2;obtain⟨en,ec⟩:=mix 597120 z (q18 a3) (q18 c3);subst ek en;exact zg3 a3 c3 ec a4 a5 c5
 subst he;exact Prod.ext e1 (zf9 hl hd Ha e3)
theorem zic{R:List Vt}{u:Vt}(h:Cd B R u c):c<429926418000:=by
 obtain⟨b,w,cb,hd,h6,hc,hl,hb⟩:=h;have:cb<7165440300:=by
  rcases hb with⟨g1,_⟩|⟨n,x,k,a1,a2,a3,_,_,a6⟩
  ·omega
  ·have:=q18 a3;omega
 omega
theorem qu1:∀(n:Nat) (l:List Nat),l.Nodup->(∀x∈l,x<n)->l.length<=n
 |0,l,_,h=>by
   match l,h with
   |[],_=>exact yg _
   |x::_,h=>exact absurd (h x xq) (xb _)
 |n+1,l,hn,h=>by
   by_cases q:n∈l
   ·have:=qu1 n (l.erase n) (hn.erase n) (fun x hx=>by
     have h1:=h x (List.mem_of_mem_erase hx);have h2:x≠n:=fun e=>by rw[e]at hx;exact(List.Nodup.not_mem_erase hn) hx
     omega)
    rw[List.length_erase_of_mem q]at this;omega
   ·have:=qu1 n l hn (fun x hx=>by
     have h1:=h x hx;have h2:x≠n:=fun e=>q (e▸hx);omega)
    omega
theorem zfx{R:List Vt}{L:List Vt}(hn:L.Nodup)(h:∀u∈L,InS B R u):L.length<=429926418000:=by
 have hf:∃f:Vt->Nat,∀u∈L,Cd B R u (f u):=by
  refine⟨fun u=>@dite _ (∃c,Cd B R u c) (Classical.propDecidable _) (fun q=>Classical.choose q) (fun _=>0),fun u hu=>?_⟩;have q:∃c,Cd B R u c:=h u hu;simp only[dif_pos q];exact Classical.choose_spec q
 obtain⟨f,hf⟩:=hf;have e:(L.map f).length<=429926418000:=by
  refine qu1 _ _ ?_ (fun c hc=>?_)
  ·clear h
   induction L with
   |nil=>exact List.nodup_nil
   |cons u L ih=>
     rw[List.map_cons,List.nodup_cons];rw[List.nodup_cons]at hn;refine⟨fun q=>?_,ih hn.2 (fun v hv=>hf v (yY _ hv))⟩;obtain⟨v,hv,ev⟩:=xt.1 q;have c1:=hf u xq;have c2:=hf v (yY _ hv);rw[ev]at c2;exact hn.1 (zid c1 c2▸hv)
  ·obtain⟨u,hu,rfl⟩:=xt.1 hc
   exact zic (hf u hu)
 rwa [yR]at e
theorem zcm{R:List Vt}{u:Vt}(hR:R.length<=300)(hu:u∈R)(h6:u.1<6)(hl:u.2.st.name.length<=9):InS B R u:=by
 obtain⟨i,hi,rfl⟩:=List.getElem_of_mem hu;exact⟨(i*10+0)*6+R[i].1,R[i],[],i,⟨rfl,.inl ⟨rfl,rfl⟩⟩,h6,rfl,hl,.inl ⟨by omega,yc hi⟩⟩
theorem zfw{R:List Vt}{u b:Vt}(hu:InS B R u)(hf:Fitn u.2)(hB:(B u.1).length<=2000)(hs:Sub B u.1 u.2 k b)(h6:b.1<6)(hl:b.2.st.name.length<=9):InS B R b:=by
 obtain⟨c,b0,w0,cb,hd,Ha,hc,Hb,hb⟩:=hu;have hk:k<(B u.1).length:=(yb.1 hs.at_).1;by_cases q:Nam u.2/\∃h w,wgo (wd B u.2.st.mode h) u.2.st.mode ((B u.1).take k)=(w,true)
 ·obtain⟨hn,h0,w,hw⟩:=q
  have hy:b.2=u.2.app w:=qwd hs.via ⟨h0,zgo B _ h0 _ _ w hn rfl hw⟩;have ha:∀h,∃h',w++(wd B u.2.st.mode h b.1).1 <+: (wd B u.2.st.mode h' u.1).1:=by
   intro h;refine⟨max h h0+1,?_⟩;have e:B u.1=(B u.1).take k++.ca b.1::(B u.1).drop (k+1):=by
    obtain⟨_,z⟩:=yb.1 hs.at_;have:=(yu k (B u.1)).symm;rw[yo hk,z]at this;exact this
   have e2:wd B u.2.st.mode (max h h0+1) u.1=cat (wgo (wd B u.2.st.mode (max h h0)) u.2.st.mode ((B u.1).take k)) (cat (wd B u.2.st.mode (max h h0) b.1) (wgo (wd B u.2.st.mode (max h h0)) u.2.st.mode ((B u.1).drop (k+1)))):=by
    show wgo _ _ (B u.1)=_;rw[yE (wgo (wd B u.2.st.mode (max h h0)) u.2.st.mode) e,qkh];rfl
   have m1:=qma (m:=u.2.st.mode) (fun n=>qt8 B u.2.st.mode (Nat.le_max_right h h0) n) ((B u.1).take k);rw[hw]at m1;have m2:=m1.2 rfl;rw[e2,m2];show w++_ <+: w++_;refine(List.prefix_append_right_inj _).2 ?_;refine List.IsPrefix.trans (qt8 B u.2.st.mode (Nat.le_max_left h h0) b.1).1 ?_;unfold cat;split
   ·exact List.prefix_append _ _
   ·exact yA _
  have hm:u.2.st.mode=b0.2.st.mode:=by rw[hd.1];rfl
  refine⟨_,b0,w0++w,cb,⟨by rw[hy,hd.1,qia],.inr ?_⟩,h6,rfl,Hb,hb⟩;rcases hd.2 with⟨rfl,e1⟩|⟨Hc,he⟩
  ·have e:u.2=b0.2:=hd.1
   rw[e,e1]at ha;exact⟨e▸hn,by simpa using ha⟩
  ·refine⟨Hc,fun h=>?_⟩
   obtain⟨h1,p1⟩:=ha h;obtain⟨h2,p2⟩:=he h1;rw[hm]at p1;refine⟨h2,List.IsPrefix.trans ?_ p2⟩;rw[yq];exact(List.prefix_append_right_inj _).2 p1
 ·exact⟨_,b,[],_,⟨rfl,.inl ⟨rfl,rfl⟩⟩,h6,rfl,hl,.inr ⟨u.1,u.2,k,Ha,by omega,hf,q,hs,rfl⟩⟩
theorem q3b{R R':List Vt}{u:Vt}(h:InS B R u)(hp:R <+: R'):InS B R' u:=by
 obtain⟨c,b0,w0,cb,hd,ha,hc,Ha,hb⟩:=h;refine⟨c,b0,w0,cb,hd,ha,hc,Ha,hb.imp (fun q=>⟨q.1,?_⟩) id⟩;obtain⟨t,rfl⟩:=hp;rw[yr (yb.1 q.2).1];exact q.2
variable{P:List Pt}{i n r r':Nat}{p:Pt}{B:Nat->List It}{u v:Vt}{x:Sx}{W R:List Vt}
def qfr(N:List zU)(x:zU):Option Nat:=N.findIdx? (·== x)
def qii(N:List zU):Nat->Nat->List Pt->List It
 |_,_,[]=>[]
 |i,s+1,_::l=>qii N (i+1) s l
 |i,0,p::l=>
   if p.kind=1 then .tx p.text::qii N (i+1) 0 l
   else if p.kind=2 then .ho::qii N (i+1) 0 l
   else if p.kind=3\/p.kind=4 then qii N (i+1) (p.mate - i) l
   else if p.kind=6 then(match qfr N p.text with
    |some n=>.ca n::qii N (i+1) 0 l
    | none=>qii N (i+1) 0 l)
   else qii N (i+1) 0 l
theorem qs8(N:List zU):∀(s:Nat) (l:List Pt) (i:Nat),qii N i s l=qii N (i+s) 0 (l.drop s)
 |0,_,_=>rfl
 |s+1,[],i=>by rw[List.drop_nil];rfl
 |s+1,p::l,i=>by
   show qii N (i+1) s l=_;rw[qs8 N s l (i+1),List.drop_succ_cons,show i+1+s=i+(s+1) by omega]
theorem qmu(N:List zU):∀(l:List Pt) (i s:Nat),(qii N i s l).length<=l.length
 |[],_,_=>by cases ‹Nat›<;>exact yg _
 |p::l,i,s+1=>yh (qmu N l (i+1) s) (by simp)
 |p::l,i,0=>by
   have h0:=qmu N l (i+1) 0;have h1:=qmu N l (i+1) (p.mate - i);unfold qii;split
   ·simp;omega
   split
   ·simp;omega
   split
   ·simp;omega
   split
   ·split<;>simp<;>omega
   ·simp;omega
def its(N:List zU)(P:List Pt):List It:=qii N 0 0 P
def qd9(N:List zU)(P:List Pt)(i:Nat):List It:=qii N i 0 (P.drop i)
theorem qij{N:List zU}(h:P[i]?=some p):qd9 N P i=qii N i 0 (p::P.drop (i+1)):=by
 unfold qd9;obtain⟨hi,e⟩:=yb.1 h;rw[yo hi,e]
theorem qxq{N:List zU}(h:P[i]?=some p)(hk:p.kind=1):qd9 N P i=.tx p.text::qd9 N P (i+1):=by
 rw[qij h];unfold qii;rw[if_pos hk];rfl
theorem qxr{N:List zU}(h:P[i]?=some p)(hk:p.kind=2):qd9 N P i=.ho::qd9 N P (i+1):=by
 rw[qij h];unfold qii;rw[if_neg (by omega),if_pos hk];rfl
theorem q1d{N:List zU}(h:P[i]?=some p)(hk:p.kind=3\/p.kind=4)(hm:i<=p.mate):qd9 N P i=qd9 N P (p.mate+1):=by
 rw[qij h];unfold qii;rw[if_neg (by omega),if_neg (by omega),if_pos hk,qs8,yD,show i+1+(p.mate - i)=p.mate+1 by omega];rfl
theorem qta{N:List zU}(h:P[i]?=some p)(hk:p.kind=6)(hn:qfr N p.text=some n):qd9 N P i=.ca n::qd9 N P (i+1):=by
 rw[qij h];unfold qii;rw[if_neg (by omega),if_neg (by omega),if_neg (by omega),if_pos hk,hn];rfl
theorem qs9{N:List zU}(h:P[i]?=some p)(hk:p.kind=5\/(p.kind=6/\qfr N p.text=none)):qd9 N P i=qd9 N P (i+1):=by
 rw[qij h];unfold qii;rcases hk with hk|⟨hk,hn⟩
 ·rw[if_neg (by omega),if_neg (by omega),if_neg (by omega),if_neg (by omega)];rfl
 ·rw[if_neg (by omega),if_neg (by omega),if_neg (by omega),if_pos hk,hn];rfl
theorem q1e{N:List zU}(h:P.length<=i):qd9 N P i=[]:=by
 unfold qd9;rw[List.drop_eq_nil_of_le h];rfl
def Need(B:Nat->List It)(u v:Vt):Prop:=∀h y,fin B h u.1 u.2=some y->∃h' z,h'<h/\fin B h' v.1 v.2=some z
theorem Need.trans{t:Vt}(h:Need B u v)(k:Need B v t):Need B u t:=fun a y e=>by
 obtain⟨b,z,h1,h2⟩:=h a y e;obtain⟨c,x,h3,h4⟩:=k b z h2;exact⟨c,x,by omega,h4⟩
theorem Need.self(h:Need B u u):∀y,¬Done B u.1 u.2 y:=by
 have key:∀n h' y,h'<=n->fin B h' u.1 u.2≠some y:=by
  intro n
  induction n with
  |zero=>intro h' y hn e;obtain⟨b,z,h1,_⟩:=h h' y e;omega
  |succ n ih=>intro h' y hn e;obtain⟨b,z,h1,h2⟩:=h h' y e;exact ih b z (by omega) h2
 rintro y ⟨a,e⟩;exact key a a y (yg _) e
theorem Need.not(h:Need B u v)(hv:∀y,¬Done B v.1 v.2 y):∀y,¬Done B u.1 u.2 y:=by
 rintro y ⟨a,e⟩;obtain⟨b,z,_,h2⟩:=h a y e;exact hv z ⟨b,h2⟩
theorem zfj{m:Nat}{z:Sx}{pre suf:List It}(hB:B n=pre++.ca m::suf)(hv:Via B pre x z):Need B (n,x) (m,z):=by
 intro h y e;cases h with
 |zero=>cases e
 |succ h=>
   have e:go (fin B h) (B n) x=some y:=e;rw[hB,qj3]at e;obtain⟨a,ha⟩:=hv;cases hp:go (fin B h) pre x with
   |none=>rw[hp]at e;cases e
   |some z'=>
     rw[hp]at e;have ez:z'=z:=qwd ⟨h,hp⟩ ⟨a,ha⟩;subst ez
     have e:(match fin B h m z' with
      |some y=>go (fin B h) suf y
      | none=>none)=some y:=e
     cases hm:fin B h m z' with
     |none=>rw[hm]at e;cases e
     |some t=>exact⟨h,t,Nat.lt_succ_self h,hm⟩
structure Et where
 n:Nat
 x:Sx
 p:Sp
 ok:Bool
structure Cm(x:Sx):Prop where
 fit:Fitn x
 esc:qt3 x
 par:∃q,ParX x q
theorem zdi:Cm Sx.start:=⟨q54,fun h=>by revert h;decide,_,qsy⟩
theorem zaj(l:zU):∀x:Sx,Cm x->Cm (qax x l):=by
 induction l with
 |nil=>intro x h;exact h
 |cons b l ih=>
   intro x h;obtain⟨q,hq⟩:=h.par;exact ih _ ⟨q1p b h.fit,qvo x b h.fit.fit.ok,_,qxe x q b h.fit.fit.ok hq⟩
theorem zai(h:Cm x):Cm x.behindHole:=by
 obtain⟨q,hq⟩:=h.par;exact⟨q9o h.fit,qr8 x h.esc,_,qhl x q h.fit.fit.ok hq⟩
theorem zah{y:Sx}(hx:Cm x)(hy:Cm y)(h:x.view=y.view):x=y:=by
 obtain⟨p,hp⟩:=hx.par;obtain⟨q,hq⟩:=hy.par;exact za4 x y p q hx.fit.fit.ok hy.fit.fit.ok hx.esc hy.esc hp hq h
theorem zhn(hW:∀u∈W,Cm u.2){n:Nat}{x:Sx}(hx:Cm x):((n:Int),x.view)∈W.map (fun u=>((u.1:Int),u.2.view))↔(n,x)∈W:=by
 constructor
 ·intro h
  obtain⟨u,hu,e⟩:=xt.1 h;injection e with e1 e2;have:u=(n,x):=Prod.ext (by omega) (zah (hW u hu) hx e2);exact this▸hu
 ·intro h;exact xt.2 ⟨_,h,rfl⟩
structure EtOk(B:Nat->List It)(R:List Vt)(r:Nat)(e:Et):Prop where
 cm:Cm e.x
 ins:InS B R (e.n,e.x)
 sp:SpOk r e.p
 yes:e.ok=true->∃y,Done B e.n e.x y/\ParX y e.p/\Cm y
 no:e.ok=false->∀y,¬Done B e.n e.x y
structure EInv(B:Nat->List It)(R:List Vt)(r:Nat)(E:List Et)(W:List Vt):Prop where
 each:∀e∈E,EtOk B R r e
 apart:(E.map (fun e=>(e.n,e.x))++W).Nodup
 wins:∀u∈W,InS B R u/\Cm u.2
theorem EInv.few{E:List Et}(h:EInv B R r E W):E.length+W.length<=429926418000:=by
 have:=zfx h.apart (fun u hu=>by
  rcases yn.1 hu with q|q
  ·obtain⟨e,he,rfl⟩:=xt.1 q
   exact(h.each e he).ins
  ·exact(h.wins u q).1)
 rwa [yJ,yR]at this
theorem SpOk.le{p:Sp}(h:SpOk r p)(hr:r<=r'):SpOk r' p:=⟨h.mode,h.tag,h.attr,h.inside,yh h.run hr⟩
theorem EtOk.le{e:Et}(h:EtOk B R r e)(hr:r<=r'):EtOk B R r' e:=⟨h.cm,h.ins,h.sp.le hr,h.yes,h.no⟩
end Pl
section
variable {w:World}{g:Nat}{t:TypeId}{fz:Nat×Nat}{u0 u1 u2 u3 u4 u5 u6 u7 u8 u9:Value}
theorem zeh(h:w.heap[g]?=some (.cells #[u0,u1,u2,u3,u4] t fz)):w.cell? (zO g 0)=some u0/\w.cell? (zO g 1)=some u1/\w.cell? (zO g 2)=some u2/\w.cell? (zO g 3)=some u3/\w.cell? (zO g 4)=some u4:=
 ⟨qaa h 0 _ rfl,qaa h 1 _ rfl,qaa h 2 _ rfl,qaa h 3 _ rfl,qaa h 4 _ rfl⟩
theorem zh8(h:w.heap[g]?=zK #[u0,u1,u2,u3,u4] t):w.frozen? (zO g 0)=false/\w.frozen? (zO g 1)=false/\w.frozen? (zO g 2)=false/\w.frozen? (zO g 3)=false/\w.frozen? (zO g 4)=false:=
 ⟨xI _ _ 0 _ _ h,xI _ _ 1 _ _ h,xI _ _ 2 _ _ h,xI _ _ 3 _ _ h,xI _ _ 4 _ _ h⟩
theorem qbu(h:w.heap[g]?=some (.cells #[u0,u1,u2,u3,u4,u5] t fz)):w.cell? (zO g 0)=some u0/\w.cell? (zO g 1)=some u1/\w.cell? (zO g 2)=some u2/\w.cell? (zO g 3)=some u3/\w.cell? (zO g 4)=some u4/\w.cell? (zO g 5)=some u5:=
 ⟨qaa h 0 _ rfl,qaa h 1 _ rfl,qaa h 2 _ rfl,qaa h 3 _ rfl,qaa h 4 _ rfl,qaa h 5 _ rfl⟩
theorem qgx(h:w.heap[g]?=zK #[u0,u1,u2,u3,u4,u5] t):w.frozen? (zO g 0)=false/\w.frozen? (zO g 1)=false/\w.frozen? (zO g 2)=false/\w.frozen? (zO g 3)=false/\w.frozen? (zO g 4)=false/\w.frozen? (zO g 5)=false:=
 ⟨xI _ _ 0 _ _ h,xI _ _ 1 _ _ h,xI _ _ 2 _ _ h,xI _ _ 3 _ _ h,xI _ _ 4 _ _ h,xI _ _ 5 _ _ h⟩
theorem qcq(h:w.heap[g]?=some (.cells #[u0,u1,u2,u3,u4,u5,u6,u7,u8,u9] t fz)):w.cell? (zO g 0)=some u0/\w.cell? (zO g 1)=some u1/\w.cell? (zO g 2)=some u2/\w.cell? (zO g 3)=some u3/\w.cell? (zO g 4)=some u4/\w.cell? (zO g 5)=some u5/\w.cell? (zO g 6)=some u6/\w.cell? (zO g 7)=some u7/\w.cell? (zO g 8)=some u8/\w.cell? (zO g 9)=some u9:=
 ⟨qaa h 0 _ rfl,qaa h 1 _ rfl,qaa h 2 _ rfl,qaa h 3 _ rfl,qaa h 4 _ rfl,qaa h 5 _ rfl,qaa h 6 _ rfl,qaa h 7 _ rfl,qaa h 8 _ rfl,qaa h 9 _ rfl⟩
theorem qgm(h:w.heap[g]?=zK #[u0,u1,u2,u3,u4,u5,u6,u7,u8,u9] t):w.frozen? (zO g 0)=false/\w.frozen? (zO g 1)=false/\w.frozen? (zO g 2)=false/\w.frozen? (zO g 3)=false/\w.frozen? (zO g 4)=false/\w.frozen? (zO g 5)=false/\w.frozen? (zO g 6)=false/\w.frozen? (zO g 7)=false/\w.frozen? (zO g 8)=false/\w.frozen? (zO g 9)=false:=
 ⟨xI _ _ 0 _ _ h,xI _ _ 1 _ _ h,xI _ _ 2 _ _ h,xI _ _ 3 _ _ h,xI _ _ 4 _ _ h,xI _ _ 5 _ _ h,xI _ _ 6 _ _ h,xI _ _ 7 _ _ h,xI _ _ 8 _ _ h,xI _ _ 9 _ _ h⟩
end
namespace Pl
def Mv(B:Nat->List It)(N:List zU)(P:List Pt)(i:Nat)(x:Sx)(j:Nat)(y:Sx):Prop:=∃p,P[i]?=some p /\
 ((p.kind=1/\j=i+1/\y=qax x p.text)\/(p.kind=2/\j=i+1/\y=x.behindHole)\/((p.kind=3\/p.kind=4)/\(j=i+1\/j=p.mate+1)/\y=x)\/(p.kind=6/\j=i+1/\((qfr N p.text=none/\y=x)\/∃m,qfr N p.text=some m/\Done B m x y)))
def Way(B:Nat->List It)(N:List zU)(P:List Pt):Nat->Nat->Sx->Nat->Sx->Prop
 |0,i,x,j,z=>i=j/\x=z
 |n+1,i,x,j,z=>∃k y,Mv B N P i x k y/\Way B N P n k y j z
def At(N:List zU)(P:List Pt)(j m:Nat):Prop:=∃p,P[j]?=some p/\p.kind=6/\qfr N p.text=some m
def Cl(B:Nat->List It)(N:List zU)(P:List Pt)(R:List Vt)(i:Nat)(x:Sx):Prop:=∀n j z m,Way B N P n i x j z->At N P j m->(m,z)∈R
section
variable {B:Nat->List It}{N:List zU}{P:List Pt}{R R':List Vt}{i:Nat}{x:Sx}{p:Pt}
theorem Cl.mono(h:Cl B N P R i x)(hR:∀u∈R,u∈R'):Cl B N P R' i x:=fun n j z m hw ha=>hR _ (h n j z m hw ha)
theorem zam(h0:∀m,At N P i m->(m,x)∈R)(h1:∀j y,Mv B N P i x j y->Cl B N P R j y):Cl B N P R i x:=by
 intro n j z m hw ha;cases n with
 |zero=>obtain⟨rfl,rfl⟩:=hw;exact h0 m ha
 |succ n=>obtain⟨k,y,hm,hw⟩:=hw;exact h1 k y hm n j z m hw ha
theorem zgh(h:P.length<=i):Cl B N P R i x:=by
 have hn:=yd h;refine zam (fun m hq=>?_) fun j y hq=>?_
 ·obtain⟨q,hq,_⟩:=hq;rw[hn]at hq;cases hq
 ·obtain⟨q,hq,_⟩:=hq;rw[hn]at hq;cases hq
theorem qn3(hp:P[i]?=some p)(h1:p.kind=1->Cl B N P R (i+1) (qax x p.text))(h2:p.kind=2->Cl B N P R (i+1) x.behindHole)
  (h3:p.kind=3\/p.kind=4->Cl B N P R (i+1) x/\Cl B N P R (p.mate+1) x) (h6:p.kind=6->(qfr N p.text=none->Cl B N P R (i+1) x)/\∀m,qfr N p.text=some m->(m,x)∈R/\∀y,Done B m x y->Cl B N P R (i+1) y):Cl B N P R i x:=by
 refine zam (fun m hq=>?_) fun j y hq=>?_
 ·obtain⟨q,hq,k,hi⟩:=hq
  rw[hp]at hq;obtain rfl:=yk hq;exact((h6 k).2 m hi).1
 ·obtain⟨q,hq,hc⟩:=hq
  rw[hp]at hq;obtain rfl:=yk hq;rcases hc with⟨k,rfl,rfl⟩|⟨k,rfl,rfl⟩|⟨k,rfl|rfl,rfl⟩|⟨k,rfl,⟨hn,rfl⟩|⟨m,hm,hd⟩⟩
  ·exact h1 k
  ·exact h2 k
  ·exact(h3 k).1
  ·exact(h3 k).2
  ·exact(h6 k).1 hn
  ·exact((h6 k).2 m hm).2 y hd
theorem zgg(hp:P[i]?=some p)(hk:p.kind=1)(h:Cl B N P R (i+1) (qax x p.text)):Cl B N P R i x:=qn3 hp (fun _=>h) (fun k=>by omega) (fun k=>by omega) fun k=>by omega
theorem zgj(hp:P[i]?=some p)(hk:p.kind=2)(h:Cl B N P R (i+1) x.behindHole):Cl B N P R i x:=qn3 hp (fun k=>by omega) (fun _=>h) (fun k=>by omega) fun k=>by omega
theorem zho(hp:P[i]?=some p)(hk:p.kind=3\/p.kind=4)(h:Cl B N P R (i+1) x)(h':Cl B N P R (p.mate+1) x):Cl B N P R i x:=qn3 hp (fun k=>by omega) (fun k=>by omega) (fun _=>⟨h,h'⟩) fun k=>by omega
theorem zeg(hp:P[i]?=some p)(hk:p.kind=5):Cl B N P R i x:=qn3 hp (fun k=>by omega) (fun k=>by omega) (fun k=>by omega) fun k=>by omega
theorem zgi(hp:P[i]?=some p)(hk:p.kind=6)(hn:qfr N p.text=none)(h:Cl B N P R (i+1) x):Cl B N P R i x:=qn3 hp (fun k=>by omega) (fun k=>by omega) (fun k=>by omega) fun _=>⟨fun _=>h,fun m hm=>by rw[hn]at hm;cases hm⟩
theorem zan{m:Nat}(hp:P[i]?=some p)(hk:p.kind=6)(hm:qfr N p.text=some m)(Ha:(m,x)∈R)(h:∀y,Done B m x y->Cl B N P R (i+1) y):Cl B N P R i x:=
 qn3 hp (fun k=>by omega) (fun k=>by omega) (fun k=>by omega) fun _=>⟨fun hn=>(by rw[hm]at hn;cases hn),fun m' ha=>(by rw[hm]at ha;obtain rfl:=yk ha;exact⟨Ha,h⟩)⟩
end
inductive Tok where
 |tx (u:zU)
 |tg (c:zU)
def Tok.bytes:Tok->zU
 |.tx u=>u
 |.tg c=>123::123::(c++[125,125])
end Pl
section
open Go
variable{P:Program}{l n:Nat}{a:Act}{w:World}{ops:Array Oper}
theorem q5e{o:Oper}{K:Act->World->Prop}{Q:Exit->Act->World->Prop}(hd:∀c,o.op≠.defer c)(h:o.wp P a w K Q):o.wpIn (Fence.wide.inRound l) n P a w K Q:=by
 unfold Oper.wpIn;refine⟨fun _ _=>trivial,?_⟩;show Oper.uponIn _ _ _ _ _ _ _ ((o.semAt (some l) a.eval).run P w);rw[Oper.semAt_some l a.eval o hd];unfold Oper.wp at h;generalize (execOp a.eval o).run P w=r at h |-;cases r with
 |ok x w'=>
   cases x<;>simp only[Oper.upon]at h<;>simp only[Oper.uponIn]
   all_goals first
    |exact h
    |exact⟨fun hx=>by simp[Fence.wide,Fence.inRound]at hx,(callsIn_wide (n:=n - 1)).2 h⟩
    |(refine⟨fun hx=>by simp[Fence.wide,Fence.inRound]at hx,fun c cs _=>?_⟩;obtain⟨v,w2,r,s⟩:=h c cs;exact⟨v,w2,r,stepsIn_wide.2 s⟩)
 |halt x w'=>cases x<;>simp only[Oper.upon]at h<;>simp only[Oper.uponIn]<;>exact h
def qu2(ops:Array Oper):Bool:=ops.all fun o=>match o.op with
 |.defer _=>false
 |_=>true
theorem q5i(h:qu2 ops=true){i:Nat}{o:Oper}(hi:ops[i]?=some o):∀c,o.op≠.defer c:=by
 intro c hc;obtain⟨ha,he⟩:=ya.1 hi;have:=(Array.all_eq_true.1 h) i ha;rw[he,hc]at this;cases this
theorem q30{i:Nat}{K K':Act->World->Prop}{Q:Exit->Act->World->Prop}(hd:qu2 ops=true)(hL:¬LetsOut Q)(hK:∀a w,K a w->K' a w)(h:wpOp P ops Q i K a w):wpOpIn (Fence.wide.inRound l) n P ops Q i K' a w:=by
 have h:=wpOp_mono hK h;unfold wpOp at h;unfold wpOpIn;cases ho:ops[i]? with
 |none=>rw[ho]at h;exact h
 |some o=>
   rw[ho]at h;simp only at h |-;split
   ·rename_i hw
    rw[if_pos hw]at h;rcases h with h|h
    ·exact q5e (q5i hd ho) h
    ·exact absurd h.2 hL
   ·rename_i hw
    rw[if_neg hw]at h;exact⟨fun _ _=>trivial,h⟩
theorem qpk{P:Program}{l n:Nat}{md:Region.Mode}{ops:Array Oper}{Q:Exit->Act->World->Prop}(hd:qu2 ops=true)(hL:¬LetsOut Q):∀(fuel:Nat) (listed:Array Bool) (a:Act) (w:World),wpAny P md ops Q fuel listed a w->wpAnyIn (Fence.wide.inRound l) n P md ops Q fuel listed a w
 |0,_,_,_,h=>h
 |fuel+1,_,_,_,h=>⟨h.1,fun i hi=>q30 hd hL (fun a' w' h'=>qpk hd hL fuel _ a' w' h') (h.2 i hi)⟩
theorem qog{id:Nat}{Q:Exit->Act->World->Prop}{S:World->Prop}(hm:P.follows .mixedOrders=true)(hd:qu2 ops=true)(hL:¬LetsOut Q)
  (h:wpAnyH P .any ops Q S ops.size (Array.replicate ops.size false) a w.drew):(Code.region id ops true).wpIn (Fence.wide.inRound l) n P Q a w:=
 wpIn_region_any hm (qpk hd hL _ _ _ _ (wpAny_of_held _ _ _ _ h))
end
namespace Pl
open Go.Lib
variable{e:Ev}{M:Nat}{o:Wt}
def Ev.Small(e:Ev)(M:Nat):Prop:=(∀v p,p∈e.parts v->p.text.length<=M)/\∀azs p,(qgn azs (qc7 (qbe e.D p))).length<=M
structure Fin(e:Ev)(M:Nat)(o:Wt):Prop where
 steps:o.steps<=5000
 out:o.out.length<=o.steps*M
 holes:o.holes.length<=o.steps
 room:e.room<0\/(o.out.length:Int)<=e.room
structure FinS(e:Ev)(M:Nat)(o:Wt):Prop where
 steps:o.steps<=5000
 out:o.out.length+M<=o.steps*M
 holes:o.holes.length+1<=o.steps
 room:e.room<0\/(o.out.length:Int)<=e.room
theorem FinS.fin(h:FinS e M o):Fin e M o:=⟨h.steps,by have:=h.out;omega,by have:=h.holes;omega,h.room⟩
theorem Fin.step(h:Fin e M o)(hs:o.steps≠5000):FinS e M { o with steps:=o.steps+1 }:=
 ⟨by show o.steps+1<=5000;have:=h.steps;omega,by show o.out.length+M<=(o.steps+1)*M;rw[Nat.add_mul];have:=h.out;omega,by show o.holes.length+1<=o.steps+1;have:=h.holes;omega,h.room⟩
theorem zbw(h:e.room<0\/(o.out.length:Int)<=e.room)(t:zU):e.room<0\/((e.put o t).1.out.length:Int)<=e.room:=by
 unfold Ev.put;rcases h with h2|h2
 ·exact .inl h2
 ·by_cases hn:e.room<0
  ·exact .inl hn
  ·right
   split
   ·simp only[yJ,yP];omega
   ·simp only[yJ];omega
theorem zfd(e:Ev)(o:Wt)(t:zU):(e.put o t).1.out.length<=o.out.length+t.length:=by
 unfold Ev.put;split
 ·simp only[yJ,yP];omega
 ·simp only[yJ];omega
theorem qjr(e:Ev)(o:Wt)(t:zU):(e.put o t).1.holes=o.holes:=by unfold Ev.put;split<;>rfl
theorem FinS.put(h:FinS e M o){t:zU}(ht:t.length<=M):Fin e M (e.put o t).1:=by
 refine⟨by rw[qfp];exact h.steps,?_,by rw[qfp,qjr];have:=h.holes;omega,zbw h.room t⟩;rw[qfp];have:=zfd e o t;have:=h.out;omega
theorem FinS.hole(h:FinS e M o)(hM:e.Small M)(K:List Pc)(name:zU)(azs:Int):Fin e M (e.hole K o name azs).1:=by
 unfold Ev.hole;split
 ·exact h.fin
 ·have hp:=h.put (hM.2 azs (qe3 e.D K name))
  refine⟨hp.steps,hp.out,?_,hp.room⟩;show(o.holes++[_]).length<=_;rw[qfp];simp only[yJ,yK,yQ];exact h.holes
theorem qkl{go:Wt->Wt×Int}(h:Fin e M o)(ha:FinS e M { o with steps:=o.steps+1 }->Fin e M (go { o with steps:=o.steps+1 }).1):Fin e M (qdo go o).1:=by
 unfold qdo;split
 ·exact h
 ·exact ha (h.step (by assumption))
theorem qtk{e:Ev}{M:Nat}{body:List Pc->Wt->Wt×Int}(hb:∀K o,Fin e M o->Fin e M (body K o).1)(K:List Pc):∀(l:List Pc) (o:Wt),Fin e M o->Fin e M (qc9 body K l o).1
 |[],o,h=>h
 |p::l,o,h=>by
   unfold qc9;split
   ·exact hb _ _ h
   ·exact qtk hb K l _ (hb _ _ h)
theorem qqb{body:List Pc->Wt->Wt×Int}(hb:∀K o,Fin e M o->Fin e M (body K o).1)(K:List Pc)(kind:Nat)(name:zU)(o:Wt)(h:Fin e M o):Fin e M (e.section body K kind name o).1:=by
 unfold Ev.section;split
 ·exact h
 ·split
  ·exact hb K o h
  ·exact qtk hb K _ o h
theorem qup(hM:e.Small M):∀(f v at' tz:Nat) (qad:Int) (K:List Pc) (o:Wt),Fin e M o->Fin e M (e.run f v at' tz qad K o).1:=by
 intro f
 induction f with
 |zero=>intro v at' tz qad K o h;exact h
 |succ f IH=>
   intro v at' tz qad K o h;unfold Ev.run;split
   ·exact h
   ·refine qkl h (fun h=>?_)
    generalize ({ o with steps:=o.steps+1 }:Wt)=o at h;have ha:∀(r:Wt×Int) (next:Nat),Fin e M r.1->Fin e M (if r.2≠0 then r else e.run f v next tz qad K r.1).1:=by
     intro r next hr
     split
     ·exact hr
     ·exact IH v next tz qad K r.1 hr
    split
    ·exact h.fin
    ·rename_i p hp
     dsimp only;split
     ·exact ha _ _ (h.put (hM.1 v p (yl hp)))
     split
     ·exact ha _ _ (h.hole hM _ _ _)
     split
     ·exact ha _ _ (qqb (fun K o h=>qkl h (fun h=>IH _ _ _ _ _ _ h.fin)) K _ _ o h.fin)
     split
     ·refine ha _ _ ?_
      split
      ·exact h.fin
      ·split
       ·exact h.fin
       ·exact IH _ _ _ _ _ _ h.fin
     ·exact ha (o,0) _ h.fin
structure Ev.Ok(e:Ev):Prop where
 src:∀(v:Nat) x,e.vis[v]?=some x->∃s,e.S[x.1]?=some s/\x.2.length=s.parts.length
 mate:∀(v i:Nat) p,(e.parts v)[i]?=some p->p.kind=3\/p.kind=4->i<p.mate/\p.mate<(e.parts v).length
 mark:∀(v i:Nat) p,(e.parts v)[i]?=some p->p.kind=6->0<=(e.marks v).getD i 0/\(e.marks v).getD i 0<(e.vis.length:Nat)
 small:e.vis.length<=100000/\∀v,(e.parts v).length<=100000
theorem Ev.Ok.len(h:e.Ok)(v:Nat):(e.marks v).length=(e.parts v).length:=by
 unfold Ev.marks Ev.parts;cases hx:e.vis[v]? with
 |none=>rfl
 |some x=>
   obtain⟨s,h1,h2⟩:=h.src v x hx;simp only[h1];exact h2
end Pl
variable{w:World}
def S(l:zU):Value:=zV l
def qig:Array Value:=#[.string ⟨#[104,116,116,112]⟩,.string ⟨#[104,116,116,112,115]⟩,.string ⟨#[109,97,105,108,116,111]⟩]
def qez:Array Value:=#[
 zI 1,.string ⟨#[38]⟩,.string ⟨#[38,97,109,112,59]⟩,
 zI 1,.string ⟨#[60]⟩,.string ⟨#[38,108,116,59]⟩,
 zI 1,.string ⟨#[62]⟩,.string ⟨#[38,103,116,59]⟩,
 zI 1,.string ⟨#[34]⟩,.string ⟨#[38,113,117,111,116,59]⟩,
 zI 1,.string ⟨#[39]⟩,.string ⟨#[38,35,51,57,59]⟩,
 zI 4,.string ⟨#[226,128,168]⟩,.string ⟨#[92,117,50,48,50,56]⟩,
 zI 4,.string ⟨#[226,128,169]⟩,.string ⟨#[92,117,50,48,50,57]⟩]
def zh5:zT:=⟨#[48,49,50,51,52,53,54,55,56,57,65,66,67,68,69,70]⟩
def zhe:zT:=⟨#[48,49,50,51,52,53,54,55,56,57,97,98,99,100,101,102]⟩
def zcl:zT:=⟨#[45,46,95,126,47,63,35,91,93,64,33,36,40,41,42,43,44,59,61]⟩
def q3n:Array Value:=#[
 .bool false,zS,zS,zS,zS,.bool false,zS,
 .bool false,zS,zS,zS,zS,.bool false,zS,
 .bool false,zS,zS,zS,zS,.bool false,zS,
 .bool false,zS,.string zcl,.string ⟨#[37]⟩,.string zh5,.bool false,zS,
 .bool true,.string ⟨#[34,39,38,47,60,62,92,96]⟩,zS,.string ⟨#[92,120]⟩,.string zhe,.bool false,zS,
 .bool true,.string ⟨#[34,39,38,47,60,62,92]⟩,zS,.string ⟨#[92]⟩,.string zhe,.bool true,.string ⟨#[32]⟩]
def Tabs(w:World):Prop:=
 (∀j v,qig.toList[j]?=some v->w.cell? (zO 7 j)=some v)/\(∀j v,qez.toList[j]?=some v->w.cell? (zO 8 j)=some v)/\(∀j v,q3n.toList[j]?=some v->w.cell? (zO 9 j)=some v)
theorem qka{g j:Nat}{v:Value}(h:w.cell? (zO g j)=some v):g<w.heap.size:=by
 rcases Nat.lt_or_ge g w.heap.size with h'|h'
 ·exact h'
 ·simp[World.cell?,Array.getElem?_eq_none h']at h
theorem Tabs.lt(h:Tabs w):9<w.heap.size:=qka (h.2.2 0 _ rfl)
theorem Tabs.kept{w':World}{B:Nat}(h:Tabs w)(hb:Below B w w')(hB:9<B):Tabs w':=
 ⟨fun j v hv=>(hb.cell (p:=zO 7 j) (by simp;omega)).trans (h.1 j v hv),fun j v hv=>(hb.cell (p:=zO 8 j) (by simp;omega)).trans (h.2.1 j v hv),fun j v hv=>(hb.cell (p:=zO 9 j) hB).trans (h.2.2 j v hv)⟩
namespace Pl
def qbm:List (Int×zU×zU):=[
 (1,[38],[38,97,109,112,59]),(1,[60],[38,108,116,59]),(1,[62],[38,103,116,59]),(1,[34],[38,113,117,111,116,59]),(1,[39],[38,35,51,57,59]),
 (4,[226,128,168],[92,117,50,48,50,56]),(4,[226,128,169],[92,117,50,48,50,57])]
def fits(kd:Int)(l:zU)(x:Int×zU×zU):Bool:=x.1==kd && x.2.1.isPrefixOf l
def qey(kd:Int)(l:zU):zU×zU:=((qbm.find? (fits kd l)).map (·.2)).getD ([],[])
theorem qdd(kd:Int)(l:zU)(k:Nat)(x:Int×zU×zU)(hx:qbm[k]?=some x)(hn:(qbm.take k).find? (fits kd l)=none)(hf:fits kd l x=false):(qbm.take (k+1)).find? (fits kd l)=none:=by
 have hk:k<qbm.length:=(yb.1 hx).1;rw[yB hk,List.find?_append,hn];have:qbm[k]=x:=by
  rw[yc hk]at hx;exact yk hx
 rw[this];simp[List.find?,hf]
theorem qhf(kd:Int)(l:zU)(k:Nat)(x:Int×zU×zU)(hx:qbm[k]?=some x)(hn:(qbm.take k).find? (fits kd l)=none)(hf:fits kd l x=true):qey kd l=x.2:=by
 have hk:k<qbm.length:=(yb.1 hx).1;have e:qbm[k]=x:=by
  rw[yc hk]at hx;exact yk hx
 have h:qbm=qbm.take k++x::qbm.drop (k+1):=by
  rw[<-e,<-yo hk,yu]
 unfold qey;rw[h,List.find?_append,hn];simp[List.find?,hf]
theorem q9q(kd:Int)(l:zU)(hn:(qbm.take 7).find? (fits kd l)=none):qey kd l=([],[]):=by
 unfold qey;rw[show qbm=qbm.take 7 from rfl,hn];rfl
def ctl(b:UInt8):Bool:=decide (b.toNat<32) || decide (b.toNat=127)
def qee(kd:Int)(b:UInt8):Bool:=
 bif kd==3 then !(among b qgv)else bif kd==4 then ctl b || among b [34,39,38,47,60,62,92,96]else bif kd==5 then odd b else false
theorem qyx(b:UInt8):qee 3 b=!(among b qgv):=rfl
theorem q3v(b:UInt8):qee 4 b=(ctl b || among b [34,39,38,47,60,62,92,96]):=rfl
theorem q3u(b:UInt8):qee 5 b=(ctl b || among b [34,39,38,47,60,62,92]):=by
 show odd b=_;unfold odd ctl;rw[Bool.or_assoc]
theorem qyy(b:UInt8):qee 1 b=false:=rfl
theorem qvw(b:UInt8)(h:qbl b=true):qee 3 b=false:=by rw[qyx,<-qvd,h];rfl
theorem qyw(b:UInt8)(h:qea b=true):qee 3 b=false:=by rw[qyx,<-qvd,h];simp
theorem q17(b:UInt8)(h:among b [45,46,95,126,47,63,35,91,93,64,33,36,40,41,42,43,44,59,61]=true):qee 3 b=false:=by rw[qyx,<-qvd,h];simp
theorem q6f(b:UInt8)(h1:qbl b=false)(h2:qea b=false)(h:among b [45,46,95,126,47,63,35,91,93,64,33,36,40,41,42,43,44,59,61]=false):qee 3 b=true:=by rw[qyx,<-qvd,h,h1,h2];rfl
theorem zef(b:UInt8)(h:b.toNat<32):ctl b=true:=by simp[ctl,h]
theorem zab(b:UInt8)(h:b.toNat=127):ctl b=true:=by simp[ctl,h]
theorem zaa(b:UInt8)(h:¬b.toNat<32)(h':¬b.toNat=127):ctl b=false:=by simp[ctl,h,h']
end Pl
namespace Pl
open Go.Lib (decodeL decodeN encodeRune)
theorem qrd(s:zT)(pos:Nat):Utf8.decode s pos=decodeL (s.data.toList.drop pos):=by
 rw[Lib.decode_N s pos,decodeL_N];simp[List.getD_eq_getElem?_getD,List.getElem?_drop]
theorem zal(l:zU)(ha:l≠[]):qd3 l=encodeRune (if((decodeL l).1:Int)=0 then 65533 else((decodeL l).1:Int))++qd3 (l.drop (decodeL l).2):=by
 by_cases hb:(decodeL l).1=65533/\(decodeL l).2=1
 ·have hc:qen l=0:=by unfold qen bad;rw[if_neg ha];simp[hb.1,hb.2]
  rw[qy1 l ha (.inl hc),if_neg (by omega),hb.1,hb.2];rfl
 have hc:qen l=(decodeL l).2:=by
  unfold qen bad;rw[if_neg ha,if_neg];simpa using hb
 have hw:=Lib.decodeL_width l;have he:=Lib.encode_decode l ha hb
 match l,ha with
 |b::r,_=>
   by_cases h0:b=0
   ·have hd:decodeL (b::r)=(b.toNat,1):=Lib.decodeL_ascii b r (by rw[h0];decide)
    rw[qy1 (b::r) (by simp) (.inr (by rw[h0];rfl)),hd];simp[h0];rfl
   ·have hr:(decodeL (b::r)).1≠0:=by
     intro q;rw[q]at he;have Ha:=yE List.length he;have Hb:min (decodeL (b::r)).2 (r.length+1)=1:=by
      rw[yP]at Ha;exact Ha.symm
     have Hc:=Lib.decodeL_le (b::r) (by simp);simp only[yK]at Hc;have h1:(decodeL (b::r)).2=1:=by omega
     rw[h1]at he;have:encodeRune ((0:Nat):Int)=[0]:=by decide
     rw[this]at he;simp at he;exact h0 he.symm
    rw[q6i (b::r) (by simp) (by rw[hc];rintro(q|q);omega;simp at q;exact h0 q),hc,if_neg (by omega),he]
theorem q6h(s:zT)(pos:Nat)(h:pos<s.size):qd3 (s.data.toList.drop pos)=encodeRune (if((Utf8.decode s pos).1:Int)=0 then 65533 else((Utf8.decode s pos).1:Int))++qd3 (s.data.toList.drop (pos+(Utf8.decode s pos).2)):=by
 rw[qrd,zal _ (by rw[qj6 s pos h];simp),yD]
end Pl
namespace Pl
def qhk(kd:Int)(b:UInt8):zU:=
 bif kd==3 then[37]++two b q67 else bif kd==4 then[92,120]++two b qgh else bif kd==5 then 92::(qme (two b qgh)++[32])else[]
theorem zgf(b:UInt8):qhk 3 b=[37]++two b q67:=rfl
theorem zge(b:UInt8):qhk 4 b=[92,120]++two b qgh:=rfl
theorem zgd(b:UInt8):qhk 5 b=92::(qme (two b qgh)++[32]):=rfl
theorem zgu(b:UInt8)(h1:b.toNat / 16<16)(h2:b.toNat % 16<16):two b q67=[(ByteArray.mk #[48,49,50,51,52,53,54,55,56,57,65,66,67,68,69,70])[b.toNat / 16]'h1,(ByteArray.mk #[48,49,50,51,52,53,54,55,56,57,65,66,67,68,69,70])[b.toNat % 16]'h2]:=
 zd0 b ⟨#[48,49,50,51,52,53,54,55,56,57,65,66,67,68,69,70]⟩ h1 h2
theorem zdz(b:UInt8)(h1:b.toNat / 16<16)(h2:b.toNat % 16<16):two b qgh=[(ByteArray.mk #[48,49,50,51,52,53,54,55,56,57,97,98,99,100,101,102])[b.toNat / 16]'h1,(ByteArray.mk #[48,49,50,51,52,53,54,55,56,57,97,98,99,100,101,102])[b.toNat % 16]'h2]:=
 zd0 b ⟨#[48,49,50,51,52,53,54,55,56,57,97,98,99,100,101,102]⟩ h1 h2
theorem zes(b:UInt8)(h:16<=b.toNat):qme (two b qgh)=two b qgh:=by
 have hh:(!(decide (16<=b.toNat)) || (qme (two b qgh)==two b qgh))=true:=qrs (fun b=>!(decide (16<=b.toNat)) || (qme (two b qgh)==two b qgh)) (by decide +kernel) b;simpa [h]using hh
theorem zer(b:UInt8)(h:b.toNat<16):qme (two b qgh)=[(two b qgh).getD 1 0]:=by
 have hh:(!(decide (b.toNat<16)) || (qme (two b qgh)==[(two b qgh).getD 1 0]))=true:=qrs (fun b=>!(decide (b.toNat<16)) || (qme (two b qgh)==[(two b qgh).getD 1 0])) (by decide +kernel) b;simpa [h]using hh
theorem q6g(kd:Int)(b:UInt8):(qhk kd b).length<=6:=by
 have:(qme (two b qgh)).length<=2:=by
  unfold qme;apply qkx<;>simp[two]
 have h3:(92::(qme (two b qgh)++[32])).length<=6:=by
  rw[yK,yJ,List.length_singleton];omega
 unfold qhk
 repeat' apply qkx
 ·simp[two]
 ·simp[two]
 ·exact h3
 ·simp
def qgi(kd:Int)(l:zU):zU:=
 bif kd==1 then qjh l else bif kd==3 then qjy l else bif kd==4 then qep l else qwo l
theorem zf6(kd:Int):qgi kd []=[]:=by
 unfold qgi;cases kd==1<;>cases kd==3<;>cases kd==4<;>rfl
theorem q9n(kd:Int)(l:zU)(h1:kd≠1)(h4:kd≠4):qey kd l=([],[]):=by
 have e1:((1:Int)==kd)=false:=yf.2 (by omega);have e4:((4:Int)==kd)=false:=yf.2 (by omega);simp[qey,qbm,fits,List.find?,e1,e4]
theorem zg2(b:UInt8)(l:zU):qey 1 (b::l)=if b=38 then([38],[38,97,109,112,59])else if b=60 then([60],[38,108,116,59])else if b=62 then([62],[38,103,116,59])else if b=34 then([34],[38,113,117,111,116,59])else if b=39 then([39],[38,35,51,57,59])else([],[]):=by
 have e:∀x:UInt8,List.isPrefixOf [x] (b::l)=(x==b):=by intro x;simp[List.isPrefixOf]
 have f:∀x:UInt8,(x==b)=decide (b=x):=by
  intro x;rw[xi,yF,yN];exact eq_comm
 have e4:((4:Int)==1)=false:=rfl;unfold qey qbm fits;simp only[List.find?,e,e4,f,Bool.false_and,beq_self_eq_true,Bool.true_and];by_cases h1:b=38
 ·simp[h1]
 by_cases h2:b=60
 ·simp[h2]
 by_cases h3:b=62
 ·simp[h3]
 by_cases h5:b=34
 ·simp[h5]
 by_cases h6:b=39
 ·simp[h6]
 simp[h1,h2,h3,h5,h6]
theorem qwh(b:UInt8):qp3 b=if b=38 then[38,97,109,112,59]else if b=60 then[38,108,116,59]else if b=62 then[38,103,116,59]else if b=34 then[38,113,117,111,116,59]else if b=39 then[38,35,51,57,59]else[b]:=by
 have:=qrs (fun b=>decide (qp3 b=if b=38 then[38,97,109,112,59]else if b=60 then[38,108,116,59]else if b=62 then[38,103,116,59]else if b=34 then[38,113,117,111,116,59]else if b=39 then[38,35,51,57,59]else[b])) (by decide +kernel) b;simpa using this
theorem qqj:∀(p l:zU),List.isPrefixOf p l=decide (l.take p.length=p)
 |[],l=>by simp
 |a::p,[]=>by simp
 |a::p,b::l=>by
   have ih:=qqj p l;rw[List.isPrefixOf,ih,xi];simp only[yL,yF,yN,yK,xf,List.cons.injEq];constructor
   ·rintro⟨h,h'⟩;exact⟨h.symm,h'⟩
   ·rintro⟨h,h'⟩;exact⟨h.symm,h'⟩
theorem zg1(l:zU):qey 4 l=if l.take 3=[226,128,168]then([226,128,168],[92,117,50,48,50,56])else if l.take 3=[226,128,169]then([226,128,169],[92,117,50,48,50,57])else([],[]):=by
 have e1:((1:Int)==4)=false:=rfl;unfold qey qbm fits;simp only[List.find?,e1,qqj,Bool.false_and,beq_self_eq_true,Bool.true_and,yK,yQ];by_cases h1:l.take 3=[226,128,168]
 ·simp[h1]
 by_cases h2:l.take 3=[226,128,169]
 ·simp[h2]
 simp[h1,h2]
theorem esc4(b:UInt8):(odd b || ((b.toNat:Int)==96))=qee 4 b:=by
 have:=qrs (fun b=>(odd b || ((b.toNat:Int)==96))==qee 4 b) (by decide +kernel) b;simpa using this
theorem zc8(kd:Int)(hk:kd=1\/kd=3\/kd=4\/kd=5)(l f t:zU)(h:qey kd l=(f,t))(hf:f≠[]) :
  qgi kd l=t++qgi kd (l.drop f.length)/\f.length<=l.length/\t.length<=6*f.length:=by
 rcases hk with rfl|rfl|rfl|rfl
 ·match l with
  |[]=>
    have e:qey 1 []=([],[]):=by decide
    rw[e]at h;cases h;exact absurd rfl hf
  |b::l=>
    rw[zg2]at h;show qjh (b::l)=t++qjh _/\_;have e:qjh (b::l)=qp3 b++qjh l:=rfl;rw[e,qwh];by_cases h1:b=38
    ·rw[if_pos h1]at h |-;cases h;exact⟨rfl,by simp,by simp⟩
    by_cases h2:b=60
    ·rw[if_neg h1,if_pos h2]at h |-;cases h;exact⟨rfl,by simp,by simp⟩
    by_cases h3:b=62
    ·rw[if_neg h1,if_neg h2,if_pos h3]at h |-;cases h;exact⟨rfl,by simp,by simp⟩
    by_cases h4:b=34
    ·rw[if_neg h1,if_neg h2,if_neg h3,if_pos h4]at h |-;cases h;exact⟨rfl,by simp,by simp⟩
    by_cases h5:b=39
    ·rw[if_neg h1,if_neg h2,if_neg h3,if_neg h4,if_pos h5]at h |-;cases h;exact⟨rfl,by simp,by simp⟩
    rw[if_neg h1,if_neg h2,if_neg h3,if_neg h4,if_neg h5]at h;cases h;exact absurd rfl hf
 ·rw[q9n 3 l (by omega) (by omega)]at h;cases h;exact absurd rfl hf
 ·rw[zg1]at h
  show qep l=t++qep _/\_;have key:∀c d e:UInt8,l.take 3=[c,d,e]->∃r,l=c::d::e::r:=by
   intro c d e q
   match l,q with
   |x::y::z::r,q=>
     simp only[xf,List.take_zero,List.cons.injEq,and_true]at q;obtain⟨rfl,rfl,rfl⟩:=q;exact⟨r,rfl⟩
  by_cases h1:l.take 3=[226,128,168]
  ·rw[if_pos h1]at h;cases h
   obtain⟨r,rfl⟩:=key _ _ _ h1;refine⟨?_,by simp,by simp⟩;rw[qiu,if_neg (by decide),if_pos (show List.take 3 (226::128::168::r)=[226,128,168]from rfl)];rfl
  by_cases h2:l.take 3=[226,128,169]
  ·rw[if_neg h1,if_pos h2]at h;cases h
   obtain⟨r,rfl⟩:=key _ _ _ h2;refine⟨?_,by simp,by simp⟩;rw[qiu,if_neg (by decide),if_neg (by simp),if_pos (show List.take 3 (226::128::169::r)=[226,128,169]from rfl)];rfl
  rw[if_neg h1,if_neg h2]at h;cases h;exact absurd rfl hf
 ·rw[q9n 5 l (by omega) (by omega)]at h;cases h;exact absurd rfl hf
theorem zc9(kd:Int)(hk:kd=1\/kd=3\/kd=4\/kd=5)(b:UInt8)(l t:zU)(h:qey kd (b::l)=([],t)) :
  qgi kd (b::l)=(if qee kd b=true then qhk kd b else[b])++qgi kd l:=by
 rcases hk with rfl|rfl|rfl|rfl
 ·rw[zg2]at h
  show qjh (b::l)=_++qjh l;rw[qyy,if_neg (by simp)];have e:qjh (b::l)=qp3 b++qjh l:=rfl;rw[e,qwh];by_cases h1:b=38
  ·rw[if_pos h1]at h;cases h
  by_cases h2:b=60
  ·rw[if_neg h1,if_pos h2]at h;cases h
  by_cases h3:b=62
  ·rw[if_neg h1,if_neg h2,if_pos h3]at h;cases h
  by_cases h4:b=34
  ·rw[if_neg h1,if_neg h2,if_neg h3,if_pos h4]at h;cases h
  by_cases h5:b=39
  ·rw[if_neg h1,if_neg h2,if_neg h3,if_neg h4,if_pos h5]at h;cases h
  rw[if_neg h1,if_neg h2,if_neg h3,if_neg h4,if_neg h5]
 ·show qon b++qjy l=_++qjy l
  rw[qyx,zgf];by_cases h1:among b qgv=true
  ·rw[q5p h1,h1,if_neg (by simp)]
  ·have h1:among b qgv=false:=by simpa using h1
   rw[q81 h1,h1];rfl
 ·show qep (b::l)=_++qep l
  rw[qiu,esc4];by_cases h1:qee 4 b=true
  ·rw[if_pos h1,if_pos h1,zge]
  ·rw[zg1]at h
   by_cases h2:(b::l).take 3=[226,128,168]
   ·rw[if_pos h2]at h;cases h
   by_cases h3:(b::l).take 3=[226,128,169]
   ·rw[if_neg h2,if_pos h3]at h;cases h
   rw[if_neg h1,if_neg h1,if_neg h2,if_neg h3]
 ·show qp7 b++qwo l=_++qwo l
  rw[show qee 5 b=odd b from rfl,zgd];unfold qp7;cases odd b<;>rfl
def q5f(p:zU):Bool:=p==[104,116,116,112] || (p==[104,116,116,112,115] || p==[109,97,105,108,116,111])
theorem q4t(c:zU)(k:Nat)(h:qb2 c=k+1):c[k]?=some 58:=by
 unfold qb2 at h;by_cases h0:run c false=0
 ·rw[if_pos h0]at h;omega
 rw[if_neg h0]at h;by_cases h1:c[run c false]?=some 58
 ·rw[if_pos h1]at h
  have:run c false=k:=by omega
  rw[<-this];exact h1
 ·rw[if_neg h1]at h;omega
theorem qqu(c:zU)(k:Nat)(h:qb2 c=k+1):qfc (c.take (k+1))=qfc (c.take k)++[58]:=by
 have hc:=q4t c k h;have hk:=(yb.1 hc).1;rw[yB hk];have:c[k]=58:=by rw[yc hk]at hc;exact yk hc
 rw[this];unfold qfc;rw[yG];rfl
theorem q56(c:zU)(h:qb2 c=0):qf3 c=qjy c:=by
 unfold qf3;rw[h,if_neg (by omega)];rfl
theorem q0f(p q:zU):(p++[58]=q++[58])↔p=q:=by
 constructor
 ·intro h;exact List.append_cancel_right h
 ·rintro rfl;rfl
theorem q55(c:zU)(k:Nat)(h:qb2 c=k+1)(ho:q5f (qfc (c.take k))=true):qf3 c=c.take (k+1)++qjy (c.drop (k+1)):=by
 unfold qf3;rw[h,qqu c k h,if_neg];rintro⟨_,h1,h2,h3⟩;simp only[q5f,yU,yF]at ho;rcases ho with q|q|q
 ·exact h1 (by rw[q];rfl)
 ·exact h2 (by rw[q];rfl)
 ·exact h3 (by rw[q];rfl)
theorem qvi(c:zU)(k:Nat)(h:qb2 c=k+1)(ho:q5f (qfc (c.take k))=false):qf3 c=qv3:=by
 unfold qf3;rw[h,qqu c k h,if_pos];simp only[q5f,Bool.or_eq_false_iff,yf]at ho;refine⟨by omega,?_,?_,?_⟩
 ·rw[show http=[104,116,116,112]++[58]from rfl];exact fun q=>ho.1 ((q0f _ _).1 q)
 ·rw[show zhd=[104,116,116,112,115]++[58]from rfl];exact fun q=>ho.2.1 ((q0f _ _).1 q)
 ·rw[show zd6=[109,97,105,108,116,111]++[58]from rfl];exact fun q=>ho.2.2 ((q0f _ _).1 q)
theorem enc3(l:zU):qgi 3 l=qjy l:=rfl
variable{S:List Src}{s s':Sr}
theorem qsb{beh:Sr->zU->Sx->Sr×Sx}(hb:∀s t x,(beh s t x).1.vis=s.vis/\(beh s t x).1.nums=s.nums)(P:List Pt):∀(n a:Nat) (s:Sr) (x:Sx),(qd7 beh P n a s x).1.vis=s.vis/\(qd7 beh P n a s x).1.nums=s.nums:=by
 intro n
 induction n with
 |zero=>intro a s x;exact⟨rfl,rfl⟩
 |succ n ih=>
   intro a s x;unfold qd7;split
   ·exact⟨rfl,rfl⟩
   ·split
    ·exact⟨rfl,rfl⟩
    ·split
     ·exact ih _ _ _
     split
     ·exact ih _ _ _
     split
     ·exact ih _ _ _
     split
     ·rename_i p _ _ _ _ _
      have h1:=hb s p.text x;have h2:=ih (a+1) (beh s p.text x).1 (beh s p.text x).2;exact⟨h2.1.trans h1.1,h2.2.trans h1.2⟩
     ·exact ih _ _ _
theorem qzc(S:List Src):∀(k:Nat) (s:Sr) (n:zU) (x:Sx),(behV S k s n x).1.vis=s.vis/\(behV S k s n x).1.nums=s.nums:=by
 intro k
 induction k with
 |zero=>intro s n x;exact⟨rfl,rfl⟩
 |succ k ih=>
   intro s n x;unfold behV;split
   ·exact⟨rfl,rfl⟩
   ·split
    ·exact⟨rfl,rfl⟩
    ·split
     ·exact⟨rfl,rfl⟩
     ·exact qsb ih _ _ _ _ _
structure Vk(S:List Src)(s:Sr):Prop where
 nums:∀p∈s.nums,p.2<s.vis.length
 vis:∀(i:Nat) (u:Nat×List Int),s.vis[i]?=some u->u.1<S.length/\u.2.length=(qah S u.1).length/\∀(a:Nat) (p:Pt) (m:Int),(qah S u.1)[a]?=some p->p.kind=6->u.2[a]?=some m->0<=m/\m<(s.vis.length:Nat)
structure Vs(s s':Sr):Prop where
 len:s.vis.length<=s'.vis.length
 same:∀(i:Nat) (u:Nat×List Int),s.vis[i]?=some u->∃u',s'.vis[i]?=some u'/\u'.1=u.1
theorem Vs.refl(s:Sr):Vs s s:=⟨yg _,fun _ u h=>⟨u,h,rfl⟩⟩
theorem Vs.trans{a b c:Sr}(h:Vs a b)(k:Vs b c):Vs a c:=⟨yh h.len k.len,fun i u hu=>by
 obtain⟨u1,e1,e2⟩:=h.same i u hu;obtain⟨u2,f1,f2⟩:=k.same i u1 e1;exact⟨u2,f1,f2.trans e2⟩⟩
theorem Vk.eq(h:Vk S s)(h1:s'.vis=s.vis)(h2:s'.nums=s.nums):Vk S s':=⟨by rw[h1,h2];exact h.nums,by rw[h1];exact h.vis⟩
theorem Vs.eq(h1:s'.vis=s.vis):Vs s s':=⟨by rw[h1];exact yg _,fun i u hu=>⟨u,by rw[h1];exact hu,rfl⟩⟩
theorem qu6(s:Sr)(v a:Nat)(m:Int):(s.mark v a m).vis.length=s.vis.length:=by unfold Sr.mark;simp
theorem Vs.mark(s:Sr)(v a:Nat)(m:Int):Vs s (s.mark v a m):=⟨by rw[qu6];exact yg _,fun i u hu=>by
 show ∃u',(s.vis.modify v fun x=>(x.1,x.2.set a m))[i]?=some u'/\_;rw[List.getElem?_modify,hu];by_cases h:v=i
 ·exact⟨(u.1,u.2.set a m),by simp[h],rfl⟩
 ·exact⟨u,by simp[h],rfl⟩⟩
theorem Vk.mark(h:Vk S s)(v a:Nat)(m:Int)(hm:∀u p,s.vis[v]?=some u->(qah S u.1)[a]?=some p->p.kind=6->0<=m/\m<(s.vis.length:Nat)):Vk S (s.mark v a m):=by
 refine⟨by rw[qu6];exact h.nums,fun i u hu=>?_⟩;rw[qu6];have ha:(s.vis.modify v fun x=>(x.1,x.2.set a m))[i]?=some u:=hu;rw[List.getElem?_modify]at ha;cases hx:s.vis[i]? with
 |none=>rw[hx]at ha;cases ha
 |some x=>
   rw[hx]at ha;obtain⟨h1,h2,h3⟩:=h.vis i x hx
   replace ha:some (if v=i then(x.1,x.2.set a m)else x)=some u:=ha
   by_cases hv:v=i
   ·rw[if_pos hv]at ha
    have e:(x.1,x.2.set a m)=u:=yk ha;subst e;refine⟨h1,by simpa using h2,fun b p z hp hk hz=>?_⟩;have Ha:(x.2.set a m)[b]?=some z:=hz;rw[List.getElem?_set]at Ha;by_cases hb:a=b
    ·subst hb
     rw[if_pos rfl]at Ha;split at Ha
     ·obtain rfl:=yk Ha
      exact hm x p (by rw[hv];exact hx) hp hk
     ·cases Ha
    ·rw[if_neg hb]at Ha
     exact h3 b p z hp hk Ha
   ·rw[if_neg hv]at ha
    have e:x=u:=yk ha;subst e;exact⟨h1,h2,h3⟩
def NmVk(S:List Src)(nm:Sr->zU->Sx->Sr×Nat×Sx):Prop:=∀s t x,Vk S s->1<=s.vis.length->Vk S (nm s t x).1/\Vs s (nm s t x).1/\(nm s t x).2.1<(nm s t x).1.vis.length
theorem zhg{nm:Sr->zU->Sx->Sr×Nat×Sx}(Hb:NmVk S nm)(i v:Nat):∀(n a:Nat) (s:Sr) (x:Sx) (B:List (Sx×Nat)),Vk S s->(∃u,s.vis[v]?=some u/\u.1=i) ->
  Vk S (goV nm S i v (qah S i) n a s x B)/\Vs s (goV nm S i v (qah S i) n a s x B):=by
 intro n
 induction n with
 |zero=>intro a s x B h _;exact⟨h,Vs.refl _⟩
 |succ n ih=>
   intro a s x B h hu;unfold goV;split
   ·exact⟨h,Vs.refl _⟩
   ·rename_i p hp
    split
    ·split
     ·exact⟨h.eq rfl rfl,Vs.eq rfl⟩
     ·exact ih _ _ _ _ h hu
    ·split
     ·rename_i k2
      split
      ·exact⟨h.eq rfl rfl,Vs.eq rfl⟩
      ·have h1:=h.mark v a x.hole.1 (fun u q ha Ha hc=>by
        obtain⟨u',e1,e2⟩:=hu;rw[e1]at ha;obtain rfl:=yk ha;rw[e2,hp]at Ha;obtain rfl:=yk Ha;omega)
       have h2:=Vs.mark s v a x.hole.1;obtain⟨u,e1,e2⟩:=hu;obtain⟨u',e3,e4⟩:=h2.same v u e1;have h3:=ih (a+1) _ x.behindHole B h1 ⟨u',e3,e4.trans e2⟩;exact⟨h3.1,h2.trans h3.2⟩
     ·split
      ·exact ih _ _ _ _ h hu
      ·split
       ·split
        ·exact⟨h,Vs.refl _⟩
        ·split
         ·exact⟨h.eq rfl rfl,Vs.eq rfl⟩
         ·exact ih _ _ _ _ h hu
       ·split
        ·rename_i k6
         obtain⟨u,e1,e2⟩:=hu;have hl:1<=s.vis.length:=by have:=(yb.1 e1).1;omega
         obtain⟨g1,g2,g3⟩:=Hb s p.text x h hl;obtain⟨u1,e3,e4⟩:=g2.same v u e1;have h1:=g1.mark v a ((nm s p.text x).2.1:Nat) (fun _ _ _ _ _=>⟨by omega,by omega⟩);have h2:=Vs.mark (nm s p.text x).1 v a ((nm s p.text x).2.1:Nat);obtain⟨u2,e5,e6⟩:=h2.same v u1 e3;have hb:∃u,((nm s p.text x).1.mark v a ((nm s p.text x).2.1:Nat)).vis[v]?=some u/\u.1=i:=⟨u2,e5,e6.trans (e4.trans e2)⟩;have hs:=g2.trans h2;dsimp only;split
         ·exact⟨h1,hs⟩
         ·split
          ·have h3:=ih (a+1) _ (nm s p.text x).2.2 B h1 hb
           exact⟨h3.1,hs.trans h3.2⟩
          ·split
           ·exact⟨h1,hs⟩
           ·rename_i b _
            have h3:=ih b.2 _ b.1 B h1 hb;exact⟨h3.1,hs.trans h3.2⟩
        ·exact ih _ _ _ _ h hu
theorem qx5(h:Vk S s)(hl:1<=s.vis.length)(e:En):qhc s e<s.vis.length:=by
 unfold qhc;cases hk:qa9 s.nums e with
 |none=>exact hl
 |some z=>exact h.nums _ (qg3 hk)
theorem zbb(S:List Src):∀(k:Nat) (s:Sr) (e:En),Vk S s->e.1<S.length->Vk S (qev S k s e)/\Vs s (qev S k s e)/\(k≠0->∃u,(qev S k s e).vis[s.vis.length]?=some u/\u.1=e.1):=by
 intro k
 induction k with
 |zero=>intro s e h _;exact⟨h,Vs.refl _,fun q=>absurd rfl q⟩
 |succ k ih=>
   intro s e h he;have h0:Vk S { s with nums:=qbi s.nums e s.vis.length,vis:=s.vis++[(e.1,List.replicate (qah S e.1).length 0)] }:=by
    refine⟨fun p hp=>?_,fun i u hu=>?_⟩
    ·show p.2<(s.vis++[_]).length
     rw[yJ];rcases qnp hp with rfl|hp
     ·show s.vis.length<_;simp
     ·have:=h.nums p hp;omega
    ·have ha:(s.vis++[(e.1,List.replicate (qah S e.1).length (0:Int))])[i]?=some u:=hu
     have Ha:(s.vis++[(e.1,List.replicate (qah S e.1).length (0:Int))]).length=s.vis.length+1:=by simp
     by_cases hi:i<s.vis.length
     ·rw[yr hi]at ha
      obtain⟨h1,h2,h3⟩:=h.vis i u ha;refine⟨h1,h2,fun a p m hp hk hm=>?_⟩;have:=h3 a p m hp hk hm;show 0<=m/\m<((s.vis++[_]).length:Nat);rw[Ha];omega
     ·rw[yt (by omega)]at ha
      have e1:u=(e.1,List.replicate (qah S e.1).length (0:Int)):=by
       cases hj:i - s.vis.length with
       |zero=>rw[hj]at ha;simpa using ha.symm
       |succ j=>rw[hj]at ha;simp at ha
      subst e1;refine⟨he,by simp,fun a p m hp hk hm=>?_⟩;have hc:(List.replicate (qah S e.1).length (0:Int))[a]?=some m:=hm;rw[List.getElem?_replicate]at hc;split at hc
      ·obtain rfl:=yk hc
       show(0:Int)<=0/\(0:Int)<((s.vis++[_]).length:Nat);rw[Ha];omega
      ·cases hc
   have h1:Vs s { s with nums:=qbi s.nums e s.vis.length,vis:=s.vis++[(e.1,List.replicate (qah S e.1).length 0)] }:=
    ⟨by show _<=(s.vis++[_]).length;simp,fun i u hu=>⟨u,by show(s.vis++[_])[i]?=some u;rw[yr (yb.1 hu).1];exact hu,rfl⟩⟩
   unfold qev
   have He:NmVk S (fun(s:Sr) (n:zU) (x:Sx)=>
    let r:=behV S 257 s n x
    if qaj S n=0\/r.1.fault.code≠0 then(r.1,0,r.2)
    else if qhc r.1 (qaj S n,x)=0 then
     (qev S k r.1 (qaj S n,x),qhc (qev S k r.1 (qaj S n,x)) (qaj S n,x),r.2)
    else(r.1,qhc r.1 (qaj S n,x),r.2)):=by
    intro s n x h hl;have hb:=qzc S 257 s n x;have hk:Vk S (behV S 257 s n x).1:=h.eq hb.1 hb.2;have hs:Vs s (behV S 257 s n x).1:=Vs.eq hb.1;have Hc:1<=(behV S 257 s n x).1.vis.length:=by rw[hb.1];exact hl
    dsimp only;split
    ·exact⟨hk,hs,Hc⟩
    ·rename_i hn
     split
     ·have hp:=(qfh S n (fun q=>hn (.inl q))).2
      obtain⟨g1,g2,_⟩:=ih (behV S 257 s n x).1 (qaj S n,x) hk hp;exact⟨g1,hs.trans g2,qx5 g1 (yh Hc g2.len) _⟩
     ·exact⟨hk,hs,qx5 hk Hc _⟩
   have Hb:∃u,(s.vis++[(e.1,List.replicate (qah S e.1).length (0:Int))])[s.vis.length]?=some u/\u.1=e.1:=⟨_,by rw[yt (yg _),xA];rfl,rfl⟩;have h2:=zhg He e.1 s.vis.length ((qah S e.1).length+1) 0 _ e.2 [] h0 Hb;refine⟨h2.1,h1.trans h2.2,fun _=>?_⟩;obtain⟨u,e1,e2⟩:=Hb;obtain⟨u',e3,e4⟩:=h2.2.same _ u e1;exact⟨u',e3,e4.trans e2⟩
theorem zfm{len:Nat}(hS:1<=S.length)(h:(qew S len).2.code=0):∃s:Sr,Vk S s/\s.vis=(qew S len).1/\s=qev S 258 ⟨[],[],[],Ft.none⟩ (0,Sx.start)/\(∃u,s.vis[0]?=some u/\u.1=0):=by
 have h0:Vk S ⟨[],[],[],Ft.none⟩:=⟨fun p hp=>(by cases hp),fun i u hu=>(by cases hu)⟩;obtain⟨g1,g2,g3⟩:=zbb S 258 ⟨[],[],[],Ft.none⟩ (0,Sx.start) h0 hS;refine⟨qev S 258 ⟨[],[],[],Ft.none⟩ (0,Sx.start),g1,?_,rfl,g3 (by decide)⟩;unfold qew at h |-;dsimp only at h |-;split at h
 ·rename_i q;exact absurd h q
 ·rename_i q
  rw[if_neg q];split at h
  ·cases h
  ·rename_i q2
   rw[if_neg q2];split at h
   ·rename_i q3;exact absurd h q3
   ·rename_i q3
    rw[if_neg q3];exact(qsb (qzc S 257) _ _ _ _ _).1.symm
theorem za1{o:Nat}{l:List Pt}(h:Wf o l):∀(i:Nat) (p:Pt),l[i]?=some p->p.kind=3\/p.kind=4->o+i<p.mate/\p.mate<o+l.length:=by
 induction h with
 |nil o=>intro i p hp;simp at hp
 |leaf o q l hk _ ih=>
   intro i p hp h5;cases i with
   |zero=>simp at hp;subst hp;omega
   |succ i=>
     have:=ih i p (by simpa using hp) h5;simp only[yK];omega
 |sec o q z b l hq hz h1 h2 hb _ ihb ihl=>
   intro i p hp h5;have e:q::b++z::l=q::(b++z::l):=by simp
   rw[e]at hp |-;simp only[yK,yJ];cases i with
   |zero=>simp at hp;subst hp;omega
   |succ i=>
     simp only[yT]at hp;rw[yI]at hp;split at hp
     ·have:=ihb i p hp h5;omega
     ·rename_i hi
      cases hx:i - b.length with
      |zero=>rw[hx]at hp;simp at hp;subst hp;omega
      |succ j=>
        rw[hx]at hp;have:=ihl j p (by simpa using hp) h5;omega
theorem q9w(kd:Int)(l:zU):(qgn kd l).length<=24*l.length+8:=by
 have hc:=qy0 l;unfold qgn;by_cases a:kd=1
 ·rw[if_pos a];have:=qhe 6 q4c (qd3 l);unfold qjh;omega
 rw[if_neg a];by_cases b:kd=3
 ·rw[if_pos b];have:=qhe 6 qnq (qd3 l);unfold qjy;omega
 rw[if_neg b];by_cases c:kd=2
 ·rw[if_pos c]
  unfold qf3;split
  ·simp[qv3]
  ·have:=qhe 6 qnq ((qd3 l).drop (qb2 (qd3 l)))
   rw[yM]at this;have hs:=qso (qd3 l);rw[yJ,yP];unfold qjy;omega
 rw[if_neg c];by_cases d:kd=4
 ·rw[if_pos d];have:=qws (qd3 l);omega
 rw[if_neg d];by_cases e:kd=5
 ·rw[if_pos e];have:=qhe 6 qz9 (qd3 l);unfold qwo;omega
 rw[if_neg e];simp
end Pl
section
open Go.Lib
def qcm(x:Nat):Bool:=decide (x=9\/x=10\/x=12\/x=13\/x=32)
theorem qrr(b:UInt8):among b qag=qcm b.toNat:=by
 have h:∀i:Fin 256,among (UInt8.ofNat i.val) qag=qcm i.val:=by decide +kernel
 have:=h ⟨b.toNat,b.toNat_lt⟩;simpa using this
theorem qgc(x:Nat)(h:128<=x):qcm x=false:=by
 unfold qcm;rw[yO];omega
theorem q4v(n b0 b1 b2 b3:Nat)(h:qcm (decodeN n b0 b1 b2 b3).1=true):(decodeN n b0 b1 b2 b3).2=1/\(decodeN n b0 b1 b2 b3).1=b0:=by
 have h2:(decodeN n b0 b1 b2 b3).1<128:=by
  rcases Nat.lt_or_ge (decodeN n b0 b1 b2 b3).1 128 with h3|h3
  ·exact h3
  ·rw[qgc _ h3]at h;cases h
 rcases decodeN_cases n b0 b1 b2 b3 with⟨c,e⟩|⟨c1,c2,c3,cv,e⟩|⟨c1,c2,c3,c4,cv,e⟩|⟨c,e⟩|e
 ·rw[e];exact⟨rfl,rfl⟩
 ·rw[e]at h2;dsimp only at h2;omega
 ·rw[e]at h2;dsimp only at h2;omega
 ·omega
 ·rw[e]at h2;dsimp only at h2;omega
theorem q4u(l:zU)(ha:l≠[])(hs:qcm (decodeL l).1=false):(decodeL l).2<=l.length/\∀j,j<(decodeL l).2->qcm (l.getD j 0).toNat=false:=by
 have hl:0<l.length:=List.length_pos_iff.2 ha;have hc:=decodeN_conts l.length (l.getD 0 0).toNat (l.getD 1 0).toNat (l.getD 2 0).toNat (l.getD 3 0).toNat;rw[Go.Lib.decodeL_N]at hs |-;obtain⟨c2,c3,c4,c5⟩:=hc;refine⟨by omega,fun j hj=>?_⟩;have Ha:j<4:=by omega
 rcases(show j=0\/j=1\/j=2\/j=3 by omega)with rfl|rfl|rfl|rfl
 ·by_cases h0:(l.getD 0 0).toNat<128
  ·have e:decodeN l.length (l.getD 0 0).toNat (l.getD 1 0).toNat (l.getD 2 0).toNat (l.getD 3 0).toNat=((l.getD 0 0).toNat,1):=by
    unfold decodeN;rw[if_pos h0]
   rw[e]at hs;exact hs
  ·exact qgc _ (by omega)
 ·exact qgc _ (by have:=(c2 (by omega)).1;omega)
 ·exact qgc _ (by have:=(c3 (by omega)).1;omega)
 ·exact qgc _ (by have:=(c4 (by omega)).1;omega)
theorem qr9:∀(k:Nat) (cur l:zU),k<=l.length->(∀j,j<k->qcm (l.getD j 0).toNat=false)->qbo cur l=qbo (cur++l.take k) (l.drop k)
 |0,cur,l,_,_=>by simp
 |k+1,cur,[],h,_=>by simp at h
 |k+1,cur,b::t,h,hz=>by
   have h0:=hz 0 (by omega);rw[List.getD_cons_zero]at h0;have h1:qbo cur (b::t)=qbo (cur++[b]) t:=by
    rw[qbo,qrr,h0];rfl
   rw[h1,qr9 k (cur++[b]) t (by simp at h;omega) (fun j hj=>by have:=hz (j+1) (by omega);simpa using this)];simp
theorem qzo(s:zT):∀(f pos:Nat) (st:Option Nat) (acc:List (Nat×Nat)),s.size<=pos+f->pos<=s.size->(∀a,st=some a->a<pos) ->
  acc.map (fun p=>pieceU s.data.toList p.1 p.2)++qbo (openPiece s.data.toList st pos) (s.data.toList.drop pos)=(closeSpans s (spansFromP qcm s f pos st acc)).map (fun p=>pieceU s.data.toList p.1 p.2):=by
 have Hb:∀(f:Nat) (st:Option Nat) (acc:List (Nat×Nat)),(∀a,st=some a->a<s.size) ->
   acc.map (fun p=>pieceU s.data.toList p.1 p.2)++qbo (openPiece s.data.toList st s.size) (s.data.toList.drop s.size)=(closeSpans s (spansFromP qcm s f s.size st acc)).map (fun p=>pieceU s.data.toList p.1 p.2):=by
  intro f st acc ha;have hd:s.data.toList.drop s.size=[]:=List.drop_eq_nil_of_le (by rw[<-size_eq];exact yg _);rw[hd,spansFromP_end _ s _ _ _ _ (Nat.lt_irrefl _)];cases st with
  |none=>simp[closeSpans,openPiece,qbo]
  |some a=>
    have:=pieceU_ne s.data.toList a s.size (ha a rfl) (by rw[<-size_eq];exact yg _);simp[closeSpans,openPiece,qbo,this]
 intro f
 induction f with
 |zero=>
   intro pos st acc h hp ha;obtain rfl:pos=s.size:=by omega
   exact Hb 0 st acc ha
 |succ f IH=>
   intro pos st acc h hp ha;by_cases Hg:pos<s.size
   rotate_left
   ·obtain rfl:pos=s.size:=by omega
    exact Hb (f+1) st acc ha
   ·have He:s.data.toList.drop pos≠[]:=by
     intro h0;have:=yE List.length h0;rw[yM,<-size_eq]at this;simp at this;omega
    have hw:=width_pos s pos;have hf:pos+(Utf8.decode s pos).2<=s.size:=by
     have:=decodeN_le_n' (s.size - pos) (s.get! pos).toNat (s.get! (pos+1)).toNat (s.get! (pos+2)).toNat (s.get! (pos+3)).toNat (by omega);rw[<-decode_at]at this;omega
    simp only[spansFromP,if_pos Hg];cases Ha:qcm (Utf8.decode s pos).1 with
    |true=>
      simp only[if_true];have hc:=q4v _ _ _ _ _ (by rw[decode_N]at Ha;exact Ha);rw[<-decode_N]at hc;obtain⟨o1,o2⟩:=hc;obtain⟨b,t,Hc⟩:∃b t,s.data.toList.drop pos=b::t:=by
       cases e:s.data.toList.drop pos with
       |nil=>exact absurd e He
       |cons b t=>exact⟨b,t,rfl⟩
      have hb:qcm b.toNat=true:=by
       rw[o2]at Ha;have:s.data.toList.getD pos 0=b:=by
        have:=yE (fun l=>l.getD 0 0) Hc;simpa [getD_dropU]using this
       rw[this]at Ha;exact Ha
      have ht:s.data.toList.drop (pos+1)=t:=by
       have:=yE (List.drop 1) Hc;simpa [List.drop_drop]using this
      have Hf:∀cur,qbo cur (b::t)=if cur=[]then qbo [] t else cur::qbo [] t:=fun cur=>by
       rw[qbo,qrr,hb];rfl
      rw[o1];cases st with
      |none=>
        have ih:=IH (pos+1) none acc (by omega) (by omega) (fun a h=>by cases h);rw[Hc,Hf];rw[ht]at ih;simpa [openPiece]using ih
      |some a=>
        have hi:=pieceU_ne s.data.toList a pos (ha a rfl) (by rw[<-size_eq];omega);have ih:=IH (pos+1) none (acc++[(a,pos)]) (by omega) (by omega) (fun a h=>by cases h);rw[Hc,Hf];rw[ht]at ih;simpa [openPiece,hi]using ih
    |false=>
      simp only[Bool.false_eq_true,if_false];have he:=q4u _ He (by rw[decodeL_drop];exact Ha);rw[decodeL_drop]at he;have hg:=fun cur=>qr9 _ cur _ he.1 he.2;simp only[yD]at hg;rw[hg];cases st with
      |none=>
        have ih:=IH (pos+(Utf8.decode s pos).2) (some pos) acc (by omega) hf (fun a h=>by cases h;omega);have e:([]:zU)++(s.data.toList.drop pos).take (Utf8.decode s pos).2=pieceU s.data.toList pos (pos+(Utf8.decode s pos).2):=by
         unfold pieceU;rw[xD,Nat.add_sub_cancel_left]
        simp only[openPiece]at ih |-;rw[e];exact ih
      |some a=>
        have ih:=IH (pos+(Utf8.decode s pos).2) (some a) acc (by omega) hf (fun b h=>by cases h;have:=ha a rfl;omega);simp only[openPiece]at ih |-;rw[pieceU_grow _ _ _ _ (yj (ha a rfl))];exact ih
theorem qya(s:zT):(goFieldsP qcm s).map (·.data.toList)=qfy s.data.toList:=by
 have h:=qzo s s.size 0 none [] (by omega) (yH _) (fun a h=>by cases h);simp only[List.map_nil,xD,openPiece,List.drop_zero]at h;unfold qfy goFieldsP spansOfP;rw[h,List.map_map]
 congr 1
 funext p;simp[pieceU]
end
section
open Go.ChangeShapes Go.WideShapes Go.ChangeAt
def qgf{H:Type}:Nat->DataW H->List Value
 |0,_=>[]
 |_+1,.lit (.int k n)=>[.int k n]
 |_+1,.lit (.bool b)=>[.bool b]
 |_+1,.lit (.string l)=>[zV l]
 |n+1,.agg ps=>ps.flatMap (qgf n)
 |_+1,_=>[]
def q7e(P:Program):Nat->List Field->Option Nat
 |o,[]=>some o
 |o,f::fs=>if f.offset=o then q7e P (o+P.cellsOf f.type) fs else none
def qgl(P:Program):Nat->TypeId->Bool
 |0,_=>false
 |n+1,t=>match P.underlying t with
   |some (.int _)=>true
   |some .bool=>true
   |some .string=>true
   |some (.array k e)=>P.cellsOf t==k*P.cellsOf e && qgl P n e
   |some (.struct fs)=>q7e P 0 fs.toList==some (P.cellsOf t) && fs.toList.all fun f=>qgl P n f.type
   |_=>false
theorem qw4{α β:Type}(g:α->List β)(sz:Nat):∀(xs:List α) (cs:List β),cs.length=xs.length*sz->(∀i x,xs[i]?=some x->(cs.drop (i*sz)).take sz=g x)->cs=xs.flatMap g
 |[],cs,h,_=>by simpa using h
 |x::xs,cs,h,hx=>by
   have h0:cs.take sz=g x:=by simpa using hx 0 x rfl
   have ih:=qw4 g sz xs (cs.drop sz) (by rw[yM,h,yK,Nat.succ_mul];omega) (fun i y hy=>by
    have:=hx (i+1) y (by simpa using hy);rw[yD,show sz+i*sz=(i+1)*sz by rw[Nat.succ_mul];omega];exact this)
   rw[List.flatMap_cons,<-h0,<-ih,yu]
theorem q7f{α β:Type}{P:Program}(g:α->List β)(cs:List β):∀(fs:List Field) (xs:List α) (o e:Nat),fs.length=xs.length->q7e P o fs=some e->e=cs.length ->
  (∀(i:Nat) (f:Field) (x:α),fs[i]?=some f->xs[i]?=some x->(cs.drop f.offset).take (P.cellsOf f.type)=g x)->cs.drop o=xs.flatMap g
 |[],[],o,e,_,ht,he,_=>by
   simp only[q7e,Option.some.injEq]at ht;subst ht;subst he;simp
 |[],_::_,_,_,hl,_,_,_=>by simp at hl
 |_::_,[],_,_,hl,_,_,_=>by simp at hl
 |f::fs,x::xs,o,e,hl,ht,he,hx=>by
   simp only[q7e]at ht;split at ht
   ·rename_i ho
    have h0:=hx 0 f x rfl rfl;rw[ho]at h0;have ih:=q7f g cs fs xs (o+P.cellsOf f.type) e (by simpa using hl) ht he (fun i f' x' hf ha=>hx (i+1) f' x' (by simpa using hf) (by simpa using ha));rw[List.flatMap_cons,<-h0,<-ih,<-yD,yu]
   ·cases ht
theorem ql3{H:Type}{enc:TypeId×Value->H}{P:Program}{w:World}{base:Nat}{sp:Nat->Bool}{ha:Bool}:∀(F fuel:Nat) (t:TypeId) (cs:List Value) (d:DataW H) (p:List MemPlace),
  qgl P F t=true->DataW.trod enc P w base sp ha fuel t cs=some (d,p)->cs=qgf F d
 |0,_,_,_,_,_,h,_=>by simp[qgl]at h
 |F+1,fuel,t,cs,d,p,h,hd=>by
   unfold qgl at h;split at h
   ·rename_i k hu
    obtain⟨n,rfl,e,_⟩:=DataW.trod_int hu hd;cases e;rfl
   ·rename_i hu
    obtain⟨b,rfl,e⟩:=DataW.trod_bool hu hd;cases e;rfl
   ·rename_i hu
    obtain⟨s,rfl,e,_⟩:=DataW.trod_string hu hd;cases e;rfl
   ·rename_i k e hu
    simp only[yL,yF]at h;obtain⟨xs,m,rfl,hx,hl,hn,hi⟩:=DataW.trod_array hu hd;cases hx;show cs=(xs.map (·.1)).flatMap (qgf F);rw[List.flatMap_map];refine qw4 _ (P.cellsOf e) xs cs (by rw[hl,h.1,hn]) ?_;intro i x hx;have Ha:i<k:=by
     have:=(yb.1 hx).1;omega
    have:=hi i Ha;rw[hx]at this;exact ql3 F m e _ x.1 x.2 h.2 this
   ·rename_i fs hu
    simp only[yL,yF]at h;obtain⟨xs,m,rfl,hx,hl,hn,hi⟩:=DataW.trod_struct hu hd;cases hx;show cs=(xs.map (·.1)).flatMap (qgf F);rw[List.flatMap_map];have:=q7f (P:=P) (fun x:DataW H×List MemPlace=>qgf F x.1) cs fs.toList xs 0 _ (by simpa using hn.symm) h.1 hl.symm (fun i f x hf hx=>by
     have h1:=hi i f (by simpa using hf);rw[hx]at h1;exact ql3 F m f.type _ x.1 x.2 (yX.1 h.2 f (yl hf)) h1)
    simpa using this
   ·cases h
theorem qbv{P:Program}{W:World}:∀ {laid:List (String×DataW Unit)} {ps:List MemPlace},DataW.LaidVars P W laid ps->∀(i:Nat) (name:String) (d:DataW Unit),laid[i]?=some (name,d) ->
  ∀(g:Nat) (t:TypeId) (F:Nat),P.globalNamed name=some g->(P.globals[g]?).map (·.type)=some t->qgl P F t=true->∀(j:Nat) (v:Value),(qgf F d)[j]?=some v->W.cell? (zO g j)=some v
 |[],_,_,i,_,_,hi=>by simp at hi
 |(n,d)::r,ps,h,i,name,d',hi=>by
   obtain⟨g',t',cs,fuel,p,q,Ha,hb,ha,hd,hr,_⟩:=h;intro g t F hg ht hp j v hv
   match i with
   |0=>
     simp only[yS,Option.some.injEq,Prod.mk.injEq]at hi;obtain⟨rfl,rfl⟩:=hi;obtain rfl:=yk (hg.symm.trans Ha);obtain rfl:=yk (ht.symm.trans hb);have e:=ql3 F fuel t _ _ _ hp hd;rw[<-e]at hv;have:=World.var?_cell hg ha j;rw[this];simpa using hv
   |i+1=>exact qbv hr i name d' (by simpa using hi) g t F hg ht hp j v hv
end
end Go.Proofs.YtfkhljmiehdgmaaGreatDoor
