/-
  Steps of the proof.
-/
import Derived.Test.YtfkhljmiehdgmaaGreatDoorCuHd
import Derived.Test.YtfkhljmiehdgmaaGreatDoorRows
import Derived.WalkKit
import Derived.WalkSpells
import Derived.WalkLawsBesides
import Derived.Lib.UnsafeStr
import Derived.Says
import Derived.Calls
import Derived.BigQuiet
import Derived.Deep.QuietTactic
import Derived.RegionTactic
import Derived.BigRegion
import Derived.Deep.RegionWith
import Derived.Lib.Split
import Derived.Lib.SlTrimSet
import Derived.Maps.OwnOps
set_option maxRecDepth 100000
set_option maxHeartbeats 40000000
namespace Go.Proofs.YtfkhljmiehdgmaaGreatDoor
open Go.RowKit Go.Proofs.Tryz Pl
variable{P:Program}{w:World}
theorem zdh(w:World)(src dst e:TypeId)(hs:P.underlying src=some (.slice e))(he:P.underlying e=some (.int .u8))(hd:P.underlying dst=some .string)
  (B:Nat) (v:Value) (l:zU) (h:w.ownsRow B e 1 v l.length (Lib.byteCells l)) :
  (convert src dst v).run P w=.ok (zV l) w:=by
 rcases h with⟨hl,⟨rfl,h0⟩|⟨g,cap,cur,rfl,hb,hg,hn,hm,hc,ht⟩⟩
 ·have:l=[]:=by simpa using h0
  subst this;exact run_convert_bytes_nil w src e hs he 0 0 dst hd
 ·refine run_convert_bytes_back w src dst e (zO g 0) cap l hs he hd ?_
  intro j hj;have e2:w.cell? (((zO g 0):Addr).add j)=(Lib.byteCells l)[j]?:=by
   have hh:w.ownsRow B e 1 (zF g l.length cap) l.length (Lib.byteCells l):=⟨hl,.inr ⟨g,cap,cur,rfl,hb,hg,hn,hm,hc,ht⟩⟩;have:=hh.cellAt j (by simpa using hj);have ha:(((zO g 0):Addr).add j)=(zO g j):=by unfold Addr.add;split<;>simp_all
   rw[ha,this]
  rw[e2];simp[Lib.byteCells,List.getElem?_eq_getElem hj]
theorem qv0(l:zU):(Lib.byteCells l).length=l.length:=Lib.byteCells_length l
theorem qkb(l:zU)(b:UInt8):Lib.byteCells (l++[b])=Lib.byteCells l++[zJ b.toNat]:=by
 rw[Lib.byteCells_append];rfl
theorem qi8{B:Nat}{a w':World}{e:TypeId}{v:Value}{n:Nat}{xs:List Value}(h:Below B a w)(ho:w.ownsRow B e 1 v n xs)(hg:w.grownBy w' v.ownBlock)(hB:B<=w.heap.size):Below B a w':=
 h.grown hg hB fun k hk=>(ho.lt k hk).1
theorem qbb(w:World)(g:Nat)(ty:TypeId)(cs:Array Value)(d:TypeDesc)(hg:∀j v,cs.toList[j]?=some v->w.cell? (zO g j)=some v)
  (hu:P.underlying ty=some d) (hd:(match d with|.struct _|.array _ _=>true|_=>false)=true) (hi:(P.info? ty).map (·.size)=some cs.size) :
  (loadVar ty (zO g 0)).run P w=.ok (.agg cs) w:=by
 have hl:(loadCells (zO g 0) cs.toList.length).run P w=.ok cs.toList.toArray w:=
  run_loadCells_list (P:=P) w (zO g 0) cs.toList (fun j v hv=>by
   have ha:((zO g 0):Addr).add j=(zO g j):=by unfold Addr.add;split<;>simp_all
   rw[ha];exact hg j v hv)
 cases hq:P.info? ty with
 |none=>simp[hq]at hi
 |some i=>
   have hs:i.size=cs.size:=by simpa [hq]using hi
   have Ha:(isAgg ty).run P w=.ok true w:=by
    unfold isAgg;rw[Sem.run_bind,run_underlying hu w];cases d<;>simp_all
   simp only[Array.length_toList,Array.toArray_toList]at hl;simp[loadVar,Sem.run_bind,Ha,sizeOf,typeInfo,hq,hs,hl]
theorem qib{ops:Array Oper}{rest:List Oper}{o:Oper}{a:Act}{Q:Exit->Act->World->Prop}(ha:o.guard=none)(ty:TypeId)(x:Operand)(ho:o.op=.load ty x)
  (g:Nat) (hx:a.eval x=zP g) (cs:Array Value) (d:TypeDesc) (hg:∀j v,cs.toList[j]?=some v->w.cell? (zO g j)=some v)
  (hu:P.underlying ty=some d) (hd:(match d with|.struct _|.array _ _=>true|_=>false)=true) (hi:(P.info? ty).map (·.size)=some cs.size)
  (h:wpList P ops Q rest (a.put o.dst (.agg cs)) w):wpList P ops Q (o::rest) a w:=
 wpList_plain ha fun K hK=>by
  unfold Oper.wp execOp;simp only[ho,hx,Instr.loadAt,Instr.sureAddr,Sem.run_bind,Sem.run_pure,Result.andThen_ok,qbb w g ty cs d hg hu hd hi];exact hK _ _ h
namespace Pl
def qh5(b:UInt8):Bool:=decide (65<=b.toNat) && decide (b.toNat<=90)
def qbl(b:UInt8):Bool:=(decide (97<=b.toNat) && decide (b.toNat<=122)) || qh5 b
def qea(b:UInt8):Bool:=decide (48<=b.toNat) && decide (b.toNat<=57)
def small(b:UInt8):UInt8:=if qh5 b then b+32 else b
def among(b:UInt8)(l:zU):Bool:=l.any fun c=>c==b
def odd(b:UInt8):Bool:=decide (b.toNat<32) || (decide (b.toNat=127) || among b [34,39,38,47,60,62,92])
theorem qdn(s:zT)(k:Nat)(h:k<s.size):s.data.toList.take (k+1)=s.data.toList.take k++[s[k]]:=by
 rw[yB (by simpa using h)];rfl
theorem qeo(s:zT)(k:Nat)(h:s.size<=k):s.data.toList.take k=s.data.toList:=
 yp (by simpa using h)
theorem quk(s:zT)(k:Nat)(h:k<s.size):s.data.toList=s.data.toList.take k++s[k]::s.data.toList.drop (k+1):=by
 have:=yu k s.data.toList;rw[yo (by simpa using h)]at this;exact this.symm
theorem beq8(a b:UInt8):((a.toNat:Int)==(b.toNat:Int))=(a==b):=by
 rw[xi];simp only[yF,Int.natCast_inj,UInt8.toNat_inj]
theorem qil(a:UInt8)(n:Nat)(h:n<256):((a.toNat:Int)==(n:Int))=(a==UInt8.ofNat n):=by
 rw[<-beq8];simp[Nat.mod_eq_of_lt h]
theorem q6t(b c:UInt8)(l:zU):among b (l++[c])=(among b l || c==b):=by
 simp[among]
theorem zar(b:UInt8)(s:zT)(k:Nat)(h:k<s.size)(he:((s[k].toNat:Int)==(b.toNat:Int))=true):among b s.data.toList=true:=by
 rw[beq8]at he;rw[quk s k h];simp[among,he]
theorem q6u(b:UInt8)(s:zT)(k:Nat)(h:k<s.size)(hn:among b (s.data.toList.take k)=false)(he:((s[k].toNat:Int)==(b.toNat:Int))=false):among b (s.data.toList.take (k+1))=false:=by
 rw[beq8]at he;rw[qdn s k h,q6t,hn,he];rfl
theorem zas(b:UInt8)(s:zT)(k:Nat)(h:¬k<s.size)(hn:among b (s.data.toList.take k)=false):among b s.data.toList=false:=by
 rwa [qeo s k (by omega)]at hn
abbrev Step:=Nat×zU×Nat
def qbs:List Step:=[
 (1,[60],2),(2,[97],3),(2,[47],11),(2,[33],13),(3,[9,10,12,13,32,47],4),(3,[62],34),(4,[9,10,12,13,32,47],4),(4,[62],34),
 (5,[9,10,12,13,32],6),(5,[61],7),(5,[47],4),(5,[62],34),(6,[9,10,12,13,32],6),(6,[61],7),(6,[47],4),(6,[62],34),
 (7,[9,10,12,13,32],7),(7,[34],8),(7,[39],9),(7,[62],34),(8,[34],4),(9,[39],4),(10,[9,10,12,13,32],4),(10,[62],34),
 (11,[97],12),(11,[62],1),(12,[62],1),(13,[45],14),(13,[62],1),(14,[45],15),(14,[62],1),(15,[45],16),(16,[45],17),(17,[62],1),(17,[45],17),(18,[62],1)]
def qbh:List Step:=[
 (20,[34],21),(20,[39],22),(20,[96],23),(20,[47],24),(21,[34,10],20),(22,[39,10],20),(23,[96],20),(24,[47],25),(24,[42],26),(25,[10],20),(26,[42],27),
 (27,[47],20),(27,[42],27),(28,[34],29),(28,[39],30),(28,[47],31),(29,[34,10],28),(30,[39,10],28),(31,[42],32),(32,[42],33),(33,[47],28),(33,[42],33)]
def qek:List Nat:=[0,0,1,0,0,0,0,0,0,0,0,0,0,0,0,0,0,0,0,0,0,0,0,0,20,0,0,0,0,0,0,28,0,0]
def qe1:List Nat:=[0,0,0,0,5,0,5,10,0,0,0,18,0,18,18,0,15,15,0,0,0,0,0,0,0,0,0,26,0,0,0,0,0,32]
def qa2:List Bool:=[false,false,false,false,false,false,false,false,false,false,false,false,false,false,false,false,false,false,false,false,false,true,true,true,false,false,false,false,false,true,true,false,false,false]
def qd1:zU:=[116,105,116,108,101]
def qg0:zU:=[116,101,120,116,97,114,101,97]
def qcx:zU:=[115,99,114,105,112,116]
def qcz:zU:=[115,116,121,108,101]
def qny:List (zU×Nat):=[(qd1,19),(qg0,19),(qcx,20),(qcz,28)]
def qdu:List (zU×Bool×Int):=[([104,114,101,102],false,1),([115,114,99],false,1),([97,99,116,105,111,110],false,1),(qcz,false,2),([111,110],true,2)]
structure St where
 mode:Nat
 name:zU
 elem:zU
 kind:Int
 read:Nat
 esc:Bool
def hit(m:Nat)(b:UInt8)(r:Step):Bool:=decide (r.1=m) && among b r.2.1
def lookup(l:List Step)(m:Nat)(b:UInt8):Nat:=match l.find? (hit m b)with
 |some r=>r.2.2
 |none=>0
def qec(b:UInt8):UInt8:=if qbl b then 97 else b
def qc6(m:Nat)(b:UInt8):Nat:=if m<19 then lookup qbs m (qec b)else lookup qbh m (qec b)
def or3(a b c:Nat):Nat:=if a≠0 then a else if b≠0 then b else c
def qc8(n:zU)(b:UInt8):zU:=if n.length=9 then n else n++[small b]
def qaw(n:zU):zU:=if n=qd1\/n=qg0\/n=qcx\/n=qcz then n else[]
def qbc(n:zU)(r:zU×Bool×Int):Bool:=r.1==n || (r.2.1 && r.1.isPrefixOf n)
def qc1(n:zU):Int:=match qdu.find? (qbc n)with
 |some r=>r.2.2
 |none=>0
def qav(n:zU):Nat:=if n=qd1 then 19 else if n=qg0 then 19 else if n=qcx then 20 else if n=qcz then 28 else 1
def qad(n:zU):St:=if qav n=1 then⟨1,[],[],0,0,false⟩else⟨qav n,[],n,0,0,false⟩
def St.named(s:St):St:=⟨s.mode,[],if s.mode=3 then qaw s.name else s.elem,if s.mode=5 then qc1 s.name else s.kind,s.read,s.esc⟩
def St.led1(s:St)(tz:Nat)(b:UInt8):St:=
 if tz=3 then { s with mode:=tz,name:=qc8 s.name b }
 else if tz=5 then { s with mode:=tz,name:=qc8 s.name b,kind:=0 }
 else if tz=4\/tz=10 then { s with mode:=tz,kind:=0 }
 else if tz=34 then qad s.elem
 else { s with mode:=tz }
def St.led(s:St)(tz:Nat)(b:UInt8):St:=if tz=s.mode then s.led1 tz b else s.named.led1 tz b
def St.ending(s:St):zU:=60::47::s.elem
def qdl:zU:=[9,10,12,13,32,47,62]
def St.ends(s:St)(b:UInt8):Bool:=decide (s.read=s.ending.length) && among b qdl
def qc3(b:UInt8):Nat:=if b=62 then 1 else 12
def St.readEnd(s:St)(b:UInt8):Nat:=if s.ending[s.read]?=some (small b)then s.read+1 else if b=60 then 1 else 0
def qhm(m:Nat):Nat:=qek.getD m 0
def St.table2(s:St)(b:UInt8):St:=s.led (or3 (qc6 s.mode b) (qe1.getD s.mode 0) s.mode) b
def St.table(s:St)(b:UInt8):St:=if qc6 s.mode b=0/\qhm s.mode≠0 then({ s with mode:=qhm s.mode }:St).table2 b else s.table2 b
def St.quiet(s:St)(b:UInt8):St:=if qa2.getD s.mode false && (s.esc || b==92)then { s with esc:=!s.esc } else s.table b
def St.behind(s:St)(b:UInt8):St:=
 if 19<=s.mode then(if s.ends b then⟨qc3 b,[],[],0,0,false⟩else({ s with read:=s.readEnd b }:St).quiet b)else s.quiet b
def St.start:St:=⟨1,[],[],0,0,false⟩
def qje(n:zU):Prop:=n=[]\/n=qd1\/n=qg0\/n=qcx\/n=qcz
structure St.Ok(s:St):Prop where
 lo:1<=s.mode
 hi:s.mode<=33
 name:s.name.length<=9
 named:s.mode≠3->s.mode≠5->s.name=[]
 elem:qje s.elem
 bare:s.mode<4\/(10<s.mode/\s.mode<19)->s.elem=[]/\s.kind=0
 low:s.mode<19->s.read=0
 calm:qa2.getD s.mode false=false->s.esc=false
 read:s.read<=s.ending.length
 wrap:-3<=s.kind/\s.kind<=3
 high:19<=s.mode->s.elem≠[]/\s.kind=0
theorem qo9{α:Type}{l:List α}(f:α->Bool)(k:Nat)(x:α)(hx:l[k]?=some x)(hn:(l.take k).find? f=none)(h:f x=true):l.find? f=some x:=by
 obtain⟨hk,rfl⟩:=yb.1 hx;have e:l=l.take k++l[k]::l.drop (k+1):=by rw[<-yo hk,yu]
 have e2:l.find? f=(l.take k++l[k]::l.drop (k+1)).find? f:=yE (List.find? f) e;rw[e2,List.find?_append,hn,List.find?_cons_of_pos h];rfl
theorem qdb{α:Type}{l:List α}(f:α->Bool)(k:Nat)(x:α)(hx:l[k]?=some x)(hn:(l.take k).find? f=none)(h:f x=false):(l.take (k+1)).find? f=none:=by
 obtain⟨hk,rfl⟩:=yb.1 hx;rw[yB hk,List.find?_append,hn,List.find?_cons_of_neg (by simp[h])];rfl
theorem qf2(n:zU)(k:Nat)(x:zU×Bool×Int)(hx:qdu[k]?=some x)(hn:(qdu.take k).find? (qbc n)=none)(h:qbc n x=true):qc1 n=x.2.2:=by
 unfold qc1;rw[qo9 _ k x hx hn h]
theorem q1c(n:zU)(hn:(qdu.take 5).find? (qbc n)=none):qc1 n=0:=by
 unfold qc1;rw[show qdu=qdu.take 5 from rfl,hn]
def qbx(m:Nat)(b:UInt8):Nat:=if qc6 m b=0/\qhm m≠0 then qhm m else m
def qdg(m:Nat)(b:UInt8):Nat:=or3 (qc6 (qbx m b) b) (qe1.getD (qbx m b) 0) (qbx m b)
theorem qo8(s:St)(b:UInt8):s.table b=(St.mk (qbx s.mode b) s.name s.elem s.kind s.read s.esc).led (qdg s.mode b) b:=by
 unfold St.table St.table2 qdg qbx;by_cases h:qc6 s.mode b=0/\qhm s.mode≠0
 ·rw[if_pos h,if_pos h]
 ·rw[if_neg h,if_neg h]
def qr3(m:Nat)(b:UInt8):Bool:=
 let r:=qbx m b
 let t:=qdg m b
 decide (1<=r) && decide (r<=33) && decide (1<=t) && decide (t<=34)
 && (if m<19 then decide (r<19) && (decide (t<19) || decide (t=34))else decide (19<=r) && decide (19<=t) && decide (t<=33))
 && (decide (r=m) || (decide (m=2) && decide (r=1)) || decide (24<=m))
 && (if t=34 then decide (3<=m) && decide (m<=10)else true)
 && (if t=3 then decide (m=2) || decide (m=3)else true)
 && (if t=5 then decide (m=4) || decide (m=5) || decide (m=6)else true)
 && (if t=4\/(6<=t/\t<=10)then decide (3<=m) && decide (m<=10)else true)
 && (if t=1\/t=2\/(11<=t/\t<=18)then decide (m=1) || decide (m=2) || (decide (11<=m) && decide (m<=18))else true)
def named:zU:=[9,10,12,13,32,33,34,39,42,45,47,60,61,62,96,97]
def cls(b:UInt8):UInt8:=if among (qec b) named then qec b else 0
theorem qho{b:UInt8}{l:zU}:among b l=true↔b∈l:=by
 unfold among;rw[List.any_eq_true];constructor
 ·rintro⟨x,hx,e⟩
  rw[yF]at e;exact e▸hx
 ·intro h
  exact⟨b,h,by simp⟩
theorem ql1(b:UInt8):cls b∈0::named:=by
 unfold cls;split
 ·rename_i h
  exact yY _ (qho.1 h)
 ·exact xq
theorem qzf(b:UInt8):qec (cls b)=cls b:=by
 have:∀c∈(0::named:zU),qec c=c:=by decide
 exact this _ (ql1 b)
theorem qzj(b:UInt8)(l:zU)(hl:l.all (fun c=>among c named)=true):among (qec b) l=among (cls b) l:=by
 unfold cls;split
 ·rfl
 ·rename_i h
  rw[xi,qho,qho];constructor
  ·intro hb
   exact absurd (yX.1 hl _ hb) h
  ·intro h0
   exact absurd (yX.1 hl _ h0) (by decide)
theorem qnu{α:Type}{f g:α->Bool}:∀(l:List α),(∀x∈l,f x=g x)->l.find? f=l.find? g
 |[],_=>rfl
 |x::l,h=>by
   rw[List.find?_cons,List.find?_cons,h x xq,qnu l (fun y hy=>h y (yY _ hy))]
theorem qs5(m:Nat)(b:UInt8)(l:List Step)(hl:l.all (fun r=>r.2.1.all (fun c=>among c named))=true):lookup l m (qec b)=lookup l m (qec (cls b)):=by
 unfold lookup;rw[qzf,qnu l];intro r hr;unfold hit;rw[qzj b r.2.1 (yX.1 hl r hr)]
theorem qsj(m:Nat)(b:UInt8):qc6 m b=qc6 m (cls b):=by
 unfold qc6;rw[qs5 m b qbs (by decide +kernel),qs5 m b qbh (by decide +kernel)]
theorem qnk(m:Nat)(b:UInt8):qbx m b=qbx m (cls b):=by unfold qbx;rw[qsj]
theorem qxn(m:Nat)(b:UInt8):qdg m b=qdg m (cls b):=by unfold qdg;rw[qnk,qsj]
theorem q7x(m:Nat)(b:UInt8):qr3 m b=qr3 m (cls b):=by
 unfold qr3;rw[qnk,qxn]
theorem q7w:((List.range 34).all fun m=>m==0 || (0::named).all fun c=>qr3 m c)=true:=by decide +kernel
theorem qqa(m:Nat)(h1:1<=m)(h2:m<=33)(b:UInt8):qr3 m b=true:=by
 rw[q7x];have:=(yX.1 q7w) m (xh.2 (by omega));simp only[yU,yF]at this;rcases this with h|h
 ·omega
 ·exact yX.1 h _ (ql1 b)
def hexB:zU:=[48,49,50,51,52,53,54,55,56,57,97,98,99,100,101,102,65,66,67,68,69,70]
def qfd:List (Nat×Nat×zU×Int):=[(21,23,[120],2),(21,23,[117],4),(29,30,hexB,5)]
structure Mk where
 ref:Bool
 hex:Int
 pct:Int
 far:Int
def Mk.none:Mk:=⟨false,0,0,0⟩
structure Sx where
 st:St
 ma:Mk
def qds(left:Int)(b:UInt8):Int:=if 0<left/\among b hexB=true then left - 1 else 0
def qxy(b:UInt8):Bool:=qbl b || (qea b || b==35)
def qa0(m:Nat):Int:=if m=1\/m=19\/m=8\/m=9 then 1 else if m=21\/m=22 then 4 else if m=29\/m=30 then 5 else 0
def qb4(kind:Int)(m:Nat):Bool:=kind==1 && (m==8 || m==9)
def qhz:zU:=[47,63,35,58]
def qcd(kind:Int)(m:Nat)(far:Int)(b:UInt8):Bool:=b==58 && (qb4 kind m && far==2)
def qdt(kind:Int)(m:Nat)(far:Int)(b:UInt8):Int:=if qcd kind m far b=true then 2 else if among b qhz=true then 3 else if far=0 then 1 else far
def qch(kind:Int)(m:Nat)(k:Mk)(b:UInt8):Mk:=
 ⟨if qa0 m=1 then b==38 || (k.ref && qxy b)else false,qds k.hex b,if qb4 kind m=true then(if b=37 then 2 else qds k.pct b)else 0,if qb4 kind m=true then qdt kind m k.far b else 0⟩
def qdp(m:Nat)(b:UInt8)(r:Nat×Nat×zU×Int):Bool:=decide (r.1<=m) && (decide (m<=r.2.1) && among b r.2.2.1)
def qa7(m:Nat)(esc:Bool)(b:UInt8):Mk:=if esc=false then Mk.none else match qfd.find? (qdp m b)with
 |some r=>⟨false,r.2.2.2,0,0⟩
 |Option.none=>Mk.none
def qms(s:St)(k:Mk)(t:Nat)(b:UInt8):Mk:=if t=s.mode/\t≠34 then qch s.kind s.mode k b else Mk.none
def Sx.led(x:Sx)(t:Nat)(b:UInt8):Sx:=⟨x.st.led t b,qms x.st x.ma t b⟩
def qls(s:St)(k:Mk)(b:UInt8):Mk:=if(qa2.getD s.mode false && (s.esc || b==92))=true then qa7 s.mode s.esc b else qms ⟨qbx s.mode b,s.name,s.elem,s.kind,s.read,s.esc⟩ k (qdg s.mode b) b
def qe8(s:St)(k:Mk)(b:UInt8):Mk:=if 19<=s.mode/\s.ends b=true then Mk.none else qls s k b
def Sx.behind(x:Sx)(b:UInt8):Sx:=⟨x.st.behind b,qe8 x.st x.ma b⟩
def Sx.start:Sx:=⟨St.start,Mk.none⟩
def qax(x:Sx)(l:zU):Sx:=l.foldl Sx.behind x
theorem qp5(x:Sx)(l:zU)(b:UInt8):qax x (l++[b])=(qax x l).behind b:=by simp[qax]
end Pl
variable{w w':World}{g:Nat}{l:List Value}
def bs(l:zU):Value:=zV l
def qjj(l:List Step):List Value:=l.flatMap fun r=>[zJ (r.1:Int),bs r.2.1,zJ (r.2.2:Int)]
def qih(l:List Nat):List Value:=l.map fun(m:Nat)=>Value.int .u8 ((m:Nat):Int)
def qm4(l:List Bool):List Value:=l.map fun m=>.bool m
def qra:List Value:=qny.flatMap fun r=>[bs r.1,zJ (r.2:Int)]
def qqw:List Value:=qfd.flatMap fun r=>[zJ (r.1:Int),zJ (r.2.1:Int),bs r.2.2.1,zI r.2.2.2]
def qrq:List Value:=qdu.flatMap fun r=>[bs r.1,.bool r.2.1,zI r.2.2]
def Lies(w:World)(g:Nat)(l:List Value):Prop:=∀(j:Nat) (v:Value),l[j]?=some v->w.cell? (zO g j)=some v
theorem Lies.lt(h:Lies w g l)(hl:0<l.length):g<w.heap.size:=by
 have:=h 0 l[0] (by simp[hl]);rcases Nat.lt_or_ge g w.heap.size with h'|h'
 ·exact h'
 ·simp[World.cell?,Array.getElem?_eq_none h']at this
theorem Lies.kept{B:Nat}(h:Lies w g l)(hb:Below B w w')(hB:g<B):Lies w' g l:=fun j v hv=>(hb.cell (p:=zO g j) hB).trans (h j v hv)
structure PTabs(w:World):Prop where
 mt:Lies w 4 (qjj qbs)
 ct:Lies w 5 (qjj qbh)
 rd:Lies w 1 (qih qek)
 ot:Lies w 2 (qih qe1)
 es:Lies w 0 (qm4 qa2)
 el:Lies w 6 qra
 at':Lies w 10 qrq
 le:Lies w 3 qqw
theorem PTabs.lt(h:PTabs w):4<w.heap.size/\5<w.heap.size/\1<w.heap.size/\2<w.heap.size/\0<w.heap.size/\6<w.heap.size/\10<w.heap.size/\3<w.heap.size:=
 ⟨h.mt.lt (by decide),h.ct.lt (by decide),h.rd.lt (by decide),h.ot.lt (by decide),h.es.lt (by decide),h.el.lt (by decide),h.at'.lt (by decide),h.le.lt (by decide)⟩
theorem PTabs.kept(h:PTabs w)(hb:zW w w'):PTabs w':=by
 obtain⟨h1,h2,h3,h4,h5,h6,h7,h8⟩:=h.lt;exact⟨h.mt.kept hb h1,h.ct.kept hb h2,h.rd.kept hb h3,h.ot.kept hb h4,h.es.kept hb h5,h.el.kept hb h6,h.at'.kept hb h7,h.le.kept hb h8⟩
theorem PTabs.kept'{w0:World}(h:PTabs w)(h0:PTabs w0)(hb:Below w0.heap.size w w'):PTabs w':=by
 obtain⟨h1,h2,h3,h4,h5,h6,h7,h8⟩:=h0.lt;exact⟨h.mt.kept hb h1,h.ct.kept hb h2,h.rd.kept hb h3,h.ot.kept hb h4,h.es.kept hb h5,h.el.kept hb h6,h.at'.kept hb h7,h.le.kept hb h8⟩
theorem PTabs.alloc(h:PTabs w)(o:Obj):PTabs (w.alloc o):=h.kept ((xM _ w).alloc (yg _) o)
theorem PTabs.drew(h:PTabs w):PTabs w.drew:=⟨h.mt,h.ct,h.rd,h.ot,h.es,h.el,h.at',h.le⟩
theorem PTabs.drewN(h:PTabs w)(n:Nat):PTabs (w.drewN n):=⟨h.mt,h.ct,h.rd,h.ot,h.es,h.el,h.at',h.le⟩
theorem zf2{α:Type}(f:α->Value)(g:α->Value)(h:α->Value):∀(l:List α) (k:Nat) (x:α),l[k]?=some x ->
  (l.flatMap fun r=>[f r,g r,h r])[3*k]?=some (f x)/\(l.flatMap fun r=>[f r,g r,h r])[3*k+1]?=some (g x)/\(l.flatMap fun r=>[f r,g r,h r])[3*k+2]?=some (h x)
 |[],k,x,e=>by simp at e
 |y::l,0,x,e=>by
   simp only[yS,Option.some.injEq]at e;subst e;exact⟨rfl,rfl,rfl⟩
 |y::l,k+1,x,e=>by
   have:=zf2 f g h l k x (by simpa using e);simp only[List.flatMap_cons,show 3*(k+1)=3*k+3 by omega];exact this
theorem zf3{α:Type}(f:α->Value)(g:α->Value):∀(l:List α) (k:Nat) (x:α),l[k]?=some x ->
  (l.flatMap fun r=>[f r,g r])[2*k]?=some (f x)/\(l.flatMap fun r=>[f r,g r])[2*k+1]?=some (g x)
 |[],k,x,e=>by simp at e
 |y::l,0,x,e=>by
   simp only[yS,Option.some.injEq]at e;subst e;exact⟨rfl,rfl⟩
 |y::l,k+1,x,e=>by
   have:=zf3 f g l k x (by simpa using e);simp only[List.flatMap_cons,show 2*(k+1)=2*k+2 by omega];exact this
theorem q2n{l:List Step}(h:Lies w g (qjj l))(k:Nat)(r:Step)(hk:l[k]?=some r) :
  w.cell? (zO g (k*3))=some (zJ (r.1:Int))/\w.cell? (zO g (k*3+1))=some (bs r.2.1)/\w.cell? (zO g (k*3+2))=some (zJ (r.2.2:Int)):=by
 obtain⟨a,b,c⟩:=zf2 (fun r:Step=>Value.int .u8 (r.1:Int)) (fun r=>bs r.2.1) (fun r=>zJ (r.2.2:Int)) l k r hk;rw[Nat.mul_comm k 3];exact⟨h _ _ a,h _ _ b,h _ _ c⟩
theorem qe7(h:Lies w 6 qra)(k:Nat)(r:zU×Nat)(hk:qny[k]?=some r) :
  w.cell? (zO 6 (2*k))=some (bs r.1)/\w.cell? (zO 6 (2*k+1))=some (zJ (r.2:Int)):=by
 obtain⟨a,b⟩:=zf3 (fun r:zU×Nat=>bs r.1) (fun r=>Value.int .u8 (r.2:Int)) qny k r hk;exact⟨h _ _ a,h _ _ b⟩
theorem qm6(h:Lies w 10 qrq)(k:Nat)(r:zU×Bool×Int)(hk:qdu[k]?=some r) :
  w.cell? (zO 10 (3*k))=some (bs r.1)/\w.cell? (zO 10 (3*k+1))=some (.bool r.2.1)/\w.cell? (zO 10 (3*k+2))=some (zI r.2.2):=by
 obtain⟨a,b,c⟩:=zf2 (fun r:zU×Bool×Int=>bs r.1) (fun r=>Value.bool r.2.1) (fun r=>zI r.2.2) qdu k r hk;exact⟨h _ _ a,h _ _ b,h _ _ c⟩
theorem zhj{α:Type}(f:α->Value)(g:α->Value)(h:α->Value)(i:α->Value):∀(l:List α) (k:Nat) (x:α),l[k]?=some x ->
  (l.flatMap fun r=>[f r,g r,h r,i r])[4*k]?=some (f x)/\(l.flatMap fun r=>[f r,g r,h r,i r])[4*k+1]?=some (g x)/\(l.flatMap fun r=>[f r,g r,h r,i r])[4*k+2]?=some (h x)/\(l.flatMap fun r=>[f r,g r,h r,i r])[4*k+3]?=some (i x)
 |[],k,x,e=>by simp at e
 |y::l,0,x,e=>by
   simp only[yS,Option.some.injEq]at e;subst e;exact⟨rfl,rfl,rfl,rfl⟩
 |y::l,k+1,x,e=>by
   have:=zhj f g h i l k x (by simpa using e);simp only[List.flatMap_cons,show 4*(k+1)=4*k+4 by omega];exact this
theorem zcc(h:Lies w 3 qqw)(k:Nat)(r:Nat×Nat×zU×Int)(hk:qfd[k]?=some r) :
  w.cell? (zO 3 (4*k))=some (zJ (r.1:Int))/\w.cell? (zO 3 (4*k+1))=some (zJ (r.2.1:Int))/\w.cell? (zO 3 (4*k+2))=some (bs r.2.2.1)/\w.cell? (zO 3 (4*k+3))=some (zI r.2.2.2):=by
 obtain⟨a,b,c,d⟩:=zhj (fun r:Nat×Nat×zU×Int=>Value.int .u8 (r.1:Int)) (fun r=>zJ (r.2.1:Int)) (fun r=>bs r.2.2.1) (fun r=>zI r.2.2.2) qfd k r hk;exact⟨h _ _ a,h _ _ b,h _ _ c,h _ _ d⟩
theorem qu4{l:List Nat}(h:Lies w g (qih l))(k:Nat)(hk:k<l.length):w.cell? (zO g k)=some (zJ ((l.getD k 0:Nat):Int)):=by
 refine h _ _ ?_;simp[qih,List.getElem?_map,List.getElem?_eq_getElem hk,List.getD_eq_getElem?_getD]
theorem zdn{l:List Bool}(h:Lies w g (qm4 l))(k:Nat)(hk:k<l.length):w.cell? (zO g k)=some (.bool (l.getD k false)):=by
 refine h _ _ ?_;simp[qm4,List.getElem?_map,List.getElem?_eq_getElem hk,List.getD_eq_getElem?_getD]
theorem al{α:Type}{L:List α}{C:Nat->α->Prop}(h:∀j v,L[j]?=some v->C j v):∀j (hj:j<L.length),C j L[j]:=fun j hj=>h j _ (yc hj)
theorem cm{P:Program}{f:FuncId}{a:Array Value}{w:World}{E:Ending}{Q:Ending->World->Prop}(h:Calls P f a w fun e w'=>e=E/\w=w')(k:Q E w):Calls P f a w Q:=h.mono fun _ _ ⟨h1,h2⟩=>h1▸h2▸k
theorem qas{a b:Bool}(h:a=b):Ending.returned (.bool a)=.returned (.bool b):=by rw[h]
theorem qal{k:IntKind}{a b:Int}(h:a=b):Ending.returned (.int k a)=.returned (.int k b):=by rw[h]
theorem qcl{a b:zT}(h:a=b):Ending.returned (.string a)=.returned (.string b):=by rw[h]
theorem zat(b:UInt8)(s:zT)(w:World)(hs:s.size<=1000000000) :
  zC 80 #[zJ b.toNat,.string s] w (zQ (.bool (among b s.data.toList)) w):=by
 go_enter func80,ntmps80
 go_wp2
 go_loop [4,5] (fun r i=>r=.bool false/\∃k:Nat,k<=s.size/\i=zI k/\among b (s.data.toList.take k)=false) (fun _ i=>s.size - (intOf i).toNat)
 case atStart=>exact⟨rfl,0,yH _,rfl,rfl⟩
 case round=>
  obtain⟨rfl,k,hk,rfl,hn⟩:=hrel;have HN:Hid (among b (s.data.toList.take k)=false):=hn;clear hn;by_cases ha:k<s.size
  ·go_wp2
   ·go_ret
    exact⟨qas (zar b s k ha ‹_›).symm,rfl⟩
   ·go_round
    case rel=>exact⟨rfl,k+1,by omega,by go_num,q6u b s k ha HN.out ‹_›⟩
    case measure=>simp[intOf];omega
  ·go_wp2
   go_ret
   exact⟨qas (zas b s k ha HN.out).symm,rfl⟩
theorem qps(b:UInt8)(w:World) :
  zC 181 #[zJ b.toNat] w (zQ (.bool (qh5 b)) w):=by
 by_cases h1:65<=b.toNat<;>by_cases h2:b.toNat<=90
 all_goals
  have H:Hid (qh5 b=_):=show qh5 b=(decide (65<=b.toNat) && decide (b.toNat<=90))from rfl;go_enter func181,ntmps181
  go_wp2
  all_goals
   go_ret
   exact⟨qas (by rw[H.out];simp[h1,h2]<;>omega),rfl⟩
theorem qde(b:UInt8)(w:World) :
  zC 102 #[zJ b.toNat] w (zQ (.bool (qea b)) w):=by
 by_cases h1:48<=b.toNat<;>by_cases h2:b.toNat<=57
 all_goals
  have H:Hid (qea b=_):=show qea b=(decide (48<=b.toNat) && decide (b.toNat<=57))from rfl;go_enter func102,ntmps102
  go_wp2
  all_goals
   go_ret
   exact⟨qas (by rw[H.out];simp[h1,h2]<;>omega),rfl⟩
theorem add8(b:UInt8)(h:b.toNat<=90):((b+32).toNat:Int)=b.toNat+32:=by
 rw[UInt8.toNat_add];simp;omega
theorem qg7(b:UInt8)(w:World) :
  zC 101 #[zJ b.toNat] w (zQ (zJ (small b).toNat) w):=by
 by_cases h1:65<=b.toNat<;>by_cases h2:b.toNat<=90
 all_goals
  have H:Hid (small b=_):=show small b=(if(decide (65<=b.toNat) && decide (b.toNat<=90))=true then b+32 else b)from rfl;go_enter func101,ntmps101
  go_wp2
  all_goals
   go_ret
   exact⟨qal (by rw[H.out];simp only[h1,h2,decide_true,decide_false,Bool.and_true,Bool.and_false,Bool.and_self,if_true,Bool.false_eq_true,if_false]<;>exact(add8 b h2).symm),rfl⟩
theorem qby(b:UInt8)(w:World) :
  zC 132 #[zJ b.toNat] w (zQ (.bool (qbl b)) w):=by
 by_cases h1:97<=b.toNat<;>by_cases h2:b.toNat<=122
 all_goals
  have H:Hid (qbl b=_):=show qbl b=((decide (97<=b.toNat) && decide (b.toNat<=122)) || qh5 b)from rfl;go_enter func132,ntmps132
  go_wp2_with (go_at_call 181;refine cm (qps b _) ?_)
  all_goals
   go_ret
   exact⟨qas (by rw[H.out];simp[h1,h2]<;>omega),rfl⟩
theorem qe5(s:zT)(k:Nat)(h:k<s.size):s.data.toList[k]?=some s[k]:=by
 rw[yc (by simpa using h)];rfl
namespace Pl
def qag:zU:=[9,10,12,13,32]
def qdq:zU:=[9,12,13,32]
def qc2(b:UInt8):Bool:=b==95 || (qea b || (decide (97<=b.toNat) && decide (b.toNat<=122)))
def qa4(l:zU):Bool:=!l.isEmpty && (decide (l.length<=8) && l.all qc2)
def isNm(l:zU):Bool:=l==[46] || (decide ((Go.Lib.split l [46]).length<=4) && (Go.Lib.split l [46]).all qa4)
structure Tg where
 kind:Nat
 slip:Nat
 name:zU
 op:zU
 cl:zU
def qay:zU->Nat
 |[]=>2
 |b::_=>if b=33 then 7 else if b=61 then 8 else if b=35 then 3 else if b=94 then 4 else if b=47 then 5 else if b=62 then 6 else 2
def qcc(kind:Nat)(n:zU):Tg:=if(if kind=6 then qa4 n else isNm n)=true then⟨kind,0,n,[],[]⟩else⟨kind,3,[],[],[]⟩
def qbo:zU->zU->List zU
 |cur,[]=>if cur=[]then[]else[cur]
 |cur,b::l=>if among b qag=true then(if cur=[]then qbo [] l else cur::qbo [] l)else qbo (cur++[b]) l
def qfy(l:zU):List zU:=qbo [] l
def qeb(l:zU):Bool:=decide (l.length<=3) && !(among 61 l)
def qdc(c:zU):Tg:=
 if Go.Lib.hasSuffix (c.drop 1) [61]=false then⟨8,4,[],[],[]⟩else
 match qfy (Go.Lib.trimSuffix (c.drop 1) [61])with
 |[a,b]=>if qeb a=true/\qeb b=true then⟨8,0,[],a,b⟩else⟨8,4,[],[],[]⟩
 |_=>⟨8,4,[],[],[]⟩
def qba(c:zU):Tg:=
 if qay c=7 then⟨7,0,[],[],[]⟩else if qay c=8 then qdc c else if qay c=2 then qcc 2 c
 else qcc (qay c) (Go.Lib.trimLeftS (c.drop 1) qag)
structure Pt where
 kind:Nat
 pos:Nat
 text:zU
 mate:Nat
structure Ct where
 op:zU
 cl:zU
 parts:List Pt
 opened:List Nat
def qel(t:zU)(a z:Nat):Nat×Nat:=
 if(Go.Lib.trimRightS (t.take a) qdq).getLast?.any (·!= 10) || (Go.Lib.trimLeftS (t.drop z) qdq).head?.any (·!= 10)then(a,z)
 else((Go.Lib.trimRightS (t.take a) qdq).length,t.length - (Go.Lib.trimPrefix (Go.Lib.trimLeftS (t.drop z) qdq) [10]).length)
def Ct.addText(c:Ct)(t:zU)(a z:Nat):Ct:=if a<z then { c with parts:=c.parts++[⟨1,a,(t.drop a).take (z - a),0⟩] } else c
def qbd(l:List Pt)(m n:Nat):List Pt:=l.modify m fun p=>{ p with mate:=n }
def qmg(l:List Pt)(m:Nat):zU:=match l[m]? with
 |some p=>p.text
 |none=>[]
def qk2(l:List Pt)(m:Nat):Nat:=match l[m]? with
 |some p=>p.pos
 |none=>0
def Ct.take(c:Ct)(one:Tg)(a:Nat):Nat×Ct:=
 if one.slip≠0 then(one.slip,c)
 else if one.kind=7 then(0,c)
 else if one.kind=8 then(0,{ c with op:=one.op,cl:=one.cl })
 else if one.kind=3\/one.kind=4 then
  (if c.opened.length=6 then(8,c)else(0,{ c with parts:=c.parts++[⟨one.kind,a,one.name,0⟩],opened:=c.opened++[c.parts.length] }))
 else if one.kind=5 then
  (match c.opened.getLast? with
   |none=>(5,c)
   | some m=>if qmg c.parts m≠one.name then(6,c) else(0,{ c with parts:=qbd c.parts m c.parts.length++[⟨5,a,one.name,m⟩],opened:=c.opened.dropLast }))
 else(0,{ c with parts:=c.parts++[⟨one.kind,a,one.name,0⟩] })
def Ct.left(c:Ct):Nat×Nat:=match c.opened.getLast? with
 |none=>(0,0)
 |some m=>(7,qk2 c.parts m)
inductive Tagged where
 |slip (kind pos:Nat)
 |over (c:Ct)
 |next (c:Ct) (a:Nat)
def Ct.step(c:Ct)(t:zU)(a:Nat):Tagged:=
 if(Go.Lib.cut (t.drop a) c.op).2.2=false then .over (c.addText t a t.length)
 else
  let at_:=a+(Go.Lib.cut (t.drop a) c.op).1.length
  let rest:=(Go.Lib.cut (t.drop a) c.op).2.1
  if(Go.Lib.cut rest c.cl).2.2=false then .slip 2 at_
  else
   let inner:=(Go.Lib.cut rest c.cl).1
   let tz:=at_+c.op.length+inner.length+c.cl.length
   let one:=qba (Go.Lib.trimS inner qag)
   let o:=if one.kind≠2 then qel t at_ tz else(at_,tz)
   let r:=(c.addText t a o.1).take one at_
   if r.1≠0 then .slip r.1 at_ else .next r.2 o.2
def Ct.go(t:zU):Nat->Ct->Nat->(Nat×Nat)×List Pt
 |0,_,_=>((0,0),[])
 |n+1,c,a=>match c.step t a with
   |.slip k p=>((k,p),[])
   |.over d=>(d.left,d.parts)
   |.next d b=>Ct.go t n d b
def Ct.start:Ct:=⟨[123,123],[125,125],[],[]⟩
def qam(t:zU):(Nat×Nat)×List Pt:=if 2000<t.length then((1,0),[])else
 if(Ct.go t (t.length+1) Ct.start 0).1.1=0 then((0,0),(Ct.go t (t.length+1) Ct.start 0).2)else((Ct.go t (t.length+1) Ct.start 0).1,[])
variable{o:Nat}{l:List Pt}{st:List Nat}
inductive Wf:Nat->List Pt->Prop
 |nil (o:Nat):Wf o []
 |leaf (o:Nat) (p:Pt) (l:List Pt):(p.kind=1\/p.kind=2\/p.kind=6)->Wf (o+1) l->Wf o (p::l)
 |sec (o:Nat) (p q:Pt) (b l:List Pt):(p.kind=3\/p.kind=4)->q.kind=5->p.mate=o+1+b.length->q.mate=o->Wf (o+1) b->Wf (o+b.length+2) l->Wf o (p::b++q::l)
inductive WfO:List Pt->List Nat->Prop
 |done (l:List Pt):Wf 0 l->WfO l []
 |opn (l:List Pt) (p:Pt) (m:List Pt) (st:List Nat):WfO l st->(p.kind=3\/p.kind=4)->Wf (l.length+1) m->WfO (l++p::m) (st++[l.length])
theorem Wf.append{m:List Pt}(h:Wf o l)(hm:Wf (o+l.length) m):Wf o (l++m):=by
 induction h with
 |nil o=>simpa using hm
 |leaf o p l hk _ ih=>
   refine .leaf o p _ hk (ih ?_);simpa [Nat.add_assoc,Nat.add_comm,Nat.add_left_comm]using hm
 |sec o p q b l hp hq h1 h2 hb _ _ ih=>
   have e:p::b++q::l++m=p::b++q::(l++m):=by simp
   rw[e];refine .sec o p q b _ hp hq h1 h2 hb (ih ?_);simpa [Nat.add_assoc,Nat.add_comm,Nat.add_left_comm]using hm
theorem Wf.one(p:Pt)(hk:p.kind=1\/p.kind=2\/p.kind=6):Wf o [p]:=.leaf o p [] hk (.nil _)
theorem WfO.snoc(h:WfO l st)(p:Pt)(hk:p.kind=1\/p.kind=2\/p.kind=6):WfO (l++[p]) st:=by
 cases h with
 |done l h=>exact .done _ (h.append (.one p hk))
 |opn l q m st h hq hm=>
   have e:l++q::m++[p]=l++q::(m++[p]):=by simp
   rw[e];exact .opn l q _ st h hq (hm.append (.one p hk))
theorem WfO.push(h:WfO l st)(p:Pt)(hk:p.kind=3\/p.kind=4):WfO (l++[p]) (st++[l.length]):=.opn l p [] st h hk (.nil _)
theorem q0g(l:List Pt)(p:Pt)(m:List Pt)(n:Nat):qbd (l++p::m) l.length n=l++{ p with mate:=n }::m:=by
 unfold qbd
 induction l with
 |nil=>rfl
 |cons x l ih=>simpa using ih
theorem WfO.last(h:WfO l st)(m:Nat)(hm:st.getLast?=some m) :
  ∃(a:List Pt) (p:Pt) (b:List Pt),l=a++p::b/\m=a.length/\(p.kind=3\/p.kind=4)/\Wf (a.length+1) b/\WfO a st.dropLast:=by
 cases h with
 |done l h=>simp at hm
 |opn l q m' st h hq hb=>
   rw[List.getLast?_concat]at hm;refine⟨l,q,m',rfl,(yk hm).symm,hq,hb,?_⟩;rw[List.dropLast_concat];exact h
theorem WfO.pop(h:WfO l st)(m:Nat)(hm:st.getLast?=some m)(q:Pt)(hq:q.kind=5)(hc:q.mate=m):WfO (qbd l m l.length++[q]) st.dropLast:=by
 obtain⟨a,p,b,rfl,rfl,hp,hb,ha⟩:=h.last m hm;have W:∀(p':Pt),(p'.kind=3\/p'.kind=4)->p'.mate=(a++p::b).length->∀o,o=a.length->Wf o (p'::b++[q]):=by
  rintro p' hk Hc o rfl;refine .sec _ p' q b [] hk hq ?_ hc hb (.nil _);rw[Hc];simp;omega
 rw[q0g];generalize hP:({ p with mate:=(a++p::b).length }:Pt)=p';have Ha:p'.kind=3\/p'.kind=4:=by subst hP;exact hp
 have Hb:p'.mate=(a++p::b).length:=by subst hP;rfl
 have e:a++p'::b++[q]=a++(p'::b++[q]):=by simp
 rw[e];generalize he:st.dropLast=st' at ha;clear hP he hm h;cases ha with
 |done a ha=>exact .done _ (ha.append (W p' Ha Hb _ (xg _)))
 |opn l' q' m' st' ha hq' hb'=>
   have e2:l'++q'::m'++(p'::b++[q])=l'++q'::(m'++(p'::b++[q])):=by simp
   rw[e2];exact .opn l' q' _ st' ha hq' (hb'.append (W p' Ha Hb _ (by simp;omega)))
theorem WfO.lt(h:WfO l st):∀m∈st,m<l.length:=by
 induction h with
 |done l _=>intro m hm;cases hm
 |opn l p b st _ _ _ ih=>
   intro m hm;rcases yn.1 hm with h|h
   ·have:=ih m h;simp;omega
   ·simp at h;subst h;simp
variable{c:Ct}{a:Nat}
theorem zac{b:Bool}(h:¬b=false):b=true:=by cases b<;>simp_all
theorem qj8(s x:zU)(h:(Go.Lib.cut s x).2.2=true):∃i:Nat,Go.Lib.index s x=i/\i+x.length<=s.length/\(Go.Lib.cut s x).1=s.take i/\(Go.Lib.cut s x).2.1=s.drop (i+x.length)/\(Go.Lib.cut s x).1.length=i:=by
 unfold Go.Lib.cut at h |-;by_cases h0:0<=Go.Lib.index s x
 ·have hr:=Go.Lib.index_room s x h0
  rw[if_pos h0];refine⟨(Go.Lib.index s x).toNat,by omega,by omega,rfl,rfl,?_⟩;simp only[yP];omega
 ·rw[if_neg h0]at h;cases h
theorem qld{α:Type}(f:α->Bool)(l:List α):(l.dropWhile f).length<=l.length:=(List.dropWhile_sublist f).length_le
theorem qmd(l cs:zU):(Go.Lib.trimRightS l cs).length<=l.length:=by
 unfold Go.Lib.trimRightS;have:=qld (cs.contains ·) l.reverse;simpa using this
theorem qiq(l cs:zU):(Go.Lib.trimLeftS l cs).length<=l.length:=qld _ _
theorem q2l(l p:zU):(Go.Lib.trimPrefix l p).length<=l.length:=by
 unfold Go.Lib.trimPrefix;split<;>simp
theorem qqx(t:zU)(a z:Nat)(h:a<=t.length)(hz:z<=t.length):(qel t a z).1<=a/\z<=(qel t a z).2/\(qel t a z).2<=t.length:=by
 unfold qel;split
 ·exact⟨yg _,yg _,hz⟩
 ·have h1:=qmd (t.take a) qdq
  have h2:=q2l (Go.Lib.trimLeftS (t.drop z) qdq) [10];have h3:=qiq (t.drop z) qdq;rw[yP]at h1;rw[yM]at h3;refine⟨?_,?_,?_⟩<;>simp only<;>omega
theorem qsa(l:zU):∀cur,∀x∈qbo cur l,x≠[]:=by
 induction l with
 |nil=>intro cur x hx;unfold qbo at hx;split at hx<;>simp_all
 |cons b l ih=>
   intro cur x hx;unfold qbo at hx;split at hx
   ·split at hx
    ·exact ih _ x hx
    ·rcases xu.1 hx with rfl | hx
     ·assumption
     ·exact ih _ x hx
   ·exact ih _ x hx
structure TgOk(one:Tg):Prop where
 kind:2<=one.kind/\one.kind<=8
 op:one.kind=8->one.slip=0->(1<=one.op.length/\one.op.length<=3)/\1<=one.cl.length/\one.cl.length<=3
theorem qxp(c:zU):2<=qay c/\qay c<=8:=by
 unfold qay;split
 ·omega
 ·repeat' split
  all_goals omega
theorem qys{l:zU}(h:l≠[]):1<=l.length:=by
 cases l with
 |nil=>exact absurd rfl h
 |cons b l=>simp
theorem q8a(c:zU):TgOk (qdc c):=by
 unfold qdc;split
 ·exact⟨by simp,fun _ h=>by cases h⟩
 ·split
  ·rename_i a b hw
   have h1:=qsa _ _ a (by show a∈qfy _;rw[hw];simp);have h2:=qsa _ _ b (by show b∈qfy _;rw[hw];simp);split
   ·rename_i hd
    obtain⟨d1,d2⟩:=hd;unfold qeb at d1 d2;simp only[yL,yN]at d1 d2;exact⟨by simp,fun _ _=>⟨⟨qys h1,d1.1⟩,qys h2,d2.1⟩⟩
   ·exact⟨by simp,fun _ h=>by cases h⟩
  ·exact⟨by simp,fun _ h=>by cases h⟩
theorem qs1(k:Nat)(n:zU)(h:2<=k/\k<8):TgOk (qcc k n):=by
 unfold qcc;split<;>split<;>exact⟨by simp;omega,fun e=>by simp at e;omega⟩
theorem qqh(c:zU):TgOk (qba c):=by
 have hk:=qxp c;unfold qba;split
 ·exact⟨by simp,fun h=>by cases h⟩
 ·split
  ·exact q8a c
  ·split
   ·exact qs1 _ _ (by omega)
   ·exact qs1 _ _ (by omega)
structure CtOk(t:zU)(c:Ct)(a:Nat):Prop where
 op:1<=c.op.length/\c.op.length<=3
 cl:1<=c.cl.length/\c.cl.length<=3
 le:a<=t.length
 few:c.parts.length<=a
 six:c.opened.length<=6
 wf:WfO c.parts c.opened
theorem qik(t:zU):CtOk t Ct.start 0:=⟨by decide,by decide,yH _,by decide,by decide,.done _ (.nil _)⟩
theorem qin{t:zU}(h:CtOk t c a)(z n:Nat)(hn:a<=n)(hz:z<=n)(ht:n<=t.length):CtOk t (c.addText t a z) n:=by
 unfold Ct.addText;split
 ·rename_i q
  have:=h.few;exact⟨h.op,h.cl,ht,by simp;omega,h.six,h.wf.snoc _ (.inl rfl)⟩
 ·exact⟨h.op,h.cl,ht,yh h.few hn,h.six,h.wf⟩
theorem qit(l:List Pt)(m n:Nat):(qbd l m n).length=l.length:=by simp[qbd]
theorem zad{t:zU}(h:CtOk t c a)(one:Tg)(ho:TgOk one)(p n:Nat)(hn:a+1<=n)(ht:n<=t.length)(hs:(c.take one p).1=0):CtOk t (c.take one p).2 n:=by
 unfold Ct.take at hs |-;have hf:=h.few;by_cases h1:one.slip≠0
 ·rw[if_pos h1]at hs;exact absurd hs h1
 rw[if_neg h1]at hs |-;have h1:one.slip=0:=by omega
 by_cases h2:one.kind=7
 ·rw[if_pos h2];exact⟨h.op,h.cl,ht,by show c.parts.length<=_;omega,h.six,h.wf⟩
 rw[if_neg h2]at hs |-;by_cases h3:one.kind=8
 ·rw[if_pos h3];exact⟨(ho.op h3 h1).1,(ho.op h3 h1).2,ht,by show c.parts.length<=_;omega,h.six,h.wf⟩
 rw[if_neg h3]at hs |-;by_cases h4:one.kind=3\/one.kind=4
 ·rw[if_pos h4]at hs |-
  by_cases h5:c.opened.length=6
  ·rw[if_pos h5]at hs;cases hs
  ·rw[if_neg h5]
   have:=h.six;exact⟨h.op,h.cl,ht,by simp;omega,by simp;omega,h.wf.push _ h4⟩
 rw[if_neg h4]at hs |-;by_cases h5:one.kind=5
 ·rw[if_pos h5]at hs |-
  cases hl:c.opened.getLast? with
  |none=>rw[hl]at hs;cases hs
  |some m=>
    rw[hl]at hs;by_cases h6:qmg c.parts m≠one.name
    ·simp only[if_pos h6]at hs;cases hs
    ·simp only[if_neg h6]
     have:=h.six;refine⟨h.op,h.cl,ht,by simp[qit];omega,by simp;omega,?_⟩;exact h.wf.pop m hl ⟨5,p,one.name,m⟩ rfl rfl
 ·rw[if_neg h5]
  have:=ho.kind;exact⟨h.op,h.cl,ht,by simp;omega,h.six,h.wf.snoc _ (by simp only;omega)⟩
theorem qhj{t:zU}(h:CtOk t c a){d:Ct}{b:Nat}(hs:c.step t a=.next d b):CtOk t d b/\a<b:=by
 unfold Ct.step at hs;have Hb:=h.le;by_cases h1:(Go.Lib.cut (t.drop a) c.op).2.2=false
 ·rw[if_pos h1]at hs;cases hs
 rw[if_neg h1]at hs;obtain⟨i,_,hi,_,hr,Ha⟩:=qj8 _ _ (zac h1);simp only[Ha,hr]at hs;rw[yM]at hi;by_cases h2:(Go.Lib.cut ((t.drop a).drop (i+c.op.length)) c.cl).2.2=false
 ·rw[if_pos h2]at hs;cases hs
 rw[if_neg h2]at hs;obtain⟨j,_,hj,_,_,hb⟩:=qj8 _ _ (zac h2);rw[hb]at hs;rw[yM,yM]at hj;have ha:=qqh (Go.Lib.trimS (Go.Lib.cut ((t.drop a).drop (i+c.op.length)) c.cl).1 qag);generalize qba _=one at hs ha;have ho:=h.op;have hc:=h.cl;have hO:(if one.kind≠2 then qel t (a+i) (a+i+c.op.length+j+c.cl.length)else(a+i,a+i+c.op.length+j+c.cl.length)).1<=a+i/\a+i+c.op.length+j+c.cl.length<=(if one.kind≠2 then qel t (a+i) (a+i+c.op.length+j+c.cl.length)else(a+i,a+i+c.op.length+j+c.cl.length)).2/\(if one.kind≠2 then qel t (a+i) (a+i+c.op.length+j+c.cl.length)else(a+i,a+i+c.op.length+j+c.cl.length)).2<=t.length:=by
  split
  ·exact qqx _ _ _ (by omega) (by omega)
  ·refine⟨yg _,yg _,?_⟩;show a+i+c.op.length+j+c.cl.length<=t.length;omega
 generalize (if one.kind≠2 then qel t (a+i) (a+i+c.op.length+j+c.cl.length)else(a+i,a+i+c.op.length+j+c.cl.length))=o at hs hO;obtain⟨o1,o2⟩:=o;simp only at hs hO;by_cases h3:((c.addText t a o1).take one (a+i)).1≠0
 ·rw[if_pos h3]at hs;cases hs
 rw[if_neg h3]at hs;injection hs with e1 e2;subst e1 e2;refine⟨zad (a:=a+i) (qin h o1 _ (by omega) (by omega) (by omega)) one ha _ _ (by omega) (by omega) (by omega),by omega⟩
theorem zae{l:List Pt}{st:List Nat}(h:WfO l st)(hs:st.getLast?=none):Wf 0 l:=by
 cases h with
 |done l h=>exact h
 |opn=>simp at hs
theorem q15{t:zU}{k p:Nat}(hs:c.step t a=.slip k p):k≠0:=by
 unfold Ct.step at hs;by_cases h1:(Go.Lib.cut (t.drop a) c.op).2.2=false
 ·rw[if_pos h1]at hs;cases hs
 rw[if_neg h1]at hs;simp only at hs;by_cases h2:(Go.Lib.cut (Go.Lib.cut (t.drop a) c.op).2.1 c.cl).2.2=false
 ·rw[if_pos h2]at hs;injection hs with e _;omega
 rw[if_neg h2]at hs;generalize hO:(if(qba _).kind≠2 then _ else _:Nat×Nat)=o at hs;by_cases h3:((c.addText t a o.1).take (qba (Go.Lib.trimS (Go.Lib.cut (Go.Lib.cut (t.drop a) c.op).2.1 c.cl).1 qag)) (a+(Go.Lib.cut (t.drop a) c.op).1.length)).1≠0
 ·rw[if_pos h3]at hs;injection hs with e _;rw[<-e];exact h3
 ·rw[if_neg h3]at hs;cases hs
theorem q16{t:zU}{d:Ct}(hs:c.step t a=.over d):d=c.addText t a t.length:=by
 unfold Ct.step at hs;by_cases h1:(Go.Lib.cut (t.drop a) c.op).2.2=false
 ·rw[if_pos h1]at hs;injection hs with e;exact e.symm
 rw[if_neg h1]at hs;simp only at hs;by_cases h2:(Go.Lib.cut (Go.Lib.cut (t.drop a) c.op).2.1 c.cl).2.2=false
 ·rw[if_pos h2]at hs;cases hs
 rw[if_neg h2]at hs;generalize hO:(if(qba _).kind≠2 then _ else _:Nat×Nat)=o at hs;by_cases h3:((c.addText t a o.1).take (qba (Go.Lib.trimS (Go.Lib.cut (Go.Lib.cut (t.drop a) c.op).2.1 c.cl).1 qag)) (a+(Go.Lib.cut (t.drop a) c.op).1.length)).1≠0
 ·rw[if_pos h3]at hs;cases hs
 ·rw[if_neg h3]at hs;cases hs
theorem zgc(t:zU):∀(n:Nat) (c:Ct) (a:Nat),CtOk t c a->t.length - a<n->(Ct.go t n c a).1.1=0->Wf 0 (Ct.go t n c a).2/\(Ct.go t n c a).2.length<=t.length:=by
 intro n
 induction n with
 |zero=>intro c a _ h;omega
 |succ n ih=>
   intro c a hc hn hs;unfold Ct.go at hs |-;cases ha:c.step t a with
   |slip k p=>
     rw[ha]at hs;exact absurd hs (q15 ha)
   |over d=>
     rw[ha]at hs;simp only at hs |-;have hd:CtOk t d t.length:=by rw[q16 ha];exact qin hc _ _ hc.le (yg _) (yg _)
     refine⟨zae hd.wf ?_,hd.few⟩;unfold Ct.left at hs;cases hl:d.opened.getLast? with
     |none=>rfl
     |some m=>rw[hl]at hs;cases hs
   |next d b=>
     rw[ha]at hs;obtain⟨h1,h2⟩:=qhj hc ha;have:=h1.le;exact ih d b h1 (by omega) hs
theorem qrh(t:zU)(h:(qam t).1.1=0):Wf 0 (qam t).2/\(qam t).2.length<=t.length:=by
 unfold qam at h |-;split at h
 ·cases h
 ·split at h
  ·rename_i h1 h2
   rw[if_neg h1,if_pos h2];exact zgc t _ _ _ (qik t) (by omega) h2
  ·rename_i h1 h2;exact absurd h h2
structure Sp where
 mode:Int
 tag:zU
 attr:zU
 inside:zU
 run:zU
 far:Int
def Sp.start:Sp:=⟨1,[],[],[],[],0⟩
def qcu(n:zU):Nat:=if n=qd1 then 1 else if n=qg0 then 2 else if n=qcx then 3 else if n=qcz then 4 else 0
def qcr(n:zU):zU:=60::47::n
def qgb(inside e:zU)(n:Nat):Bool:=decide (n<=inside.length) && ((inside.drop (inside.length - n)).map small==e.take n)
def qbr(inside e:zU):Nat->Nat
 |0=>0
 |n+1=>if qgb inside e (n+1)then n+1 else qbr inside e n
def Sp.read(p:Sp):Nat:=qbr p.inside (qcr p.tag) (qcr p.tag).length
def qca(m:Int):Bool:=m==21 || (m==22 || (m==23 || (m==29 || m==30)))
def qa1:zU:=[48,49,50,51,52,53,54,55,56,57,97,98,99,100,101,102,65,66,67,68,69,70]
def qcp(css:Bool)(left:Int)(b:UInt8):Int:=
 if left=1 then(if(css && among b qa1)=true then 6 else if(!css && b==120)=true then 3 else if(!css && b==117)=true then 5 else 0)
 else if 1<left/\among b qa1=true then(if left - 1=1 then 0 else left - 1)
 else if b=92 then 1 else 0
def qdz(css:Bool)(run:zU):Int:=run.foldl (qcp css) 0
def qce(s:zU):zU:=if 12<s.length then s.drop (s.length - 12)else s
def qdj:zU:=[97,98,99,100,101,102,103,104,105,106,107,108,109,110,111,112,113,114,115,116,117,118,119,120,121,122,65,66,67,68,69,70,71,72,73,74,75,76,77,78,79,80,81,82,83,84,85,86,87,88,89,90,48,49,50,51,52,53,54,55,56,57,35]
def refR:zU->Bool
 |[]=>false
 |b::l=>if b=38 then true else if among b qdj=true then refR l else false
def qie(run:zU):Bool:=refR run.reverse
def qbg(m:Int):Bool:=decide (28<=m)
def kept(m:Int)(run:zU):zU:=
 if qca m=true then(if qdz (qbg m) run=0 then[]else run)
 else if qie run=true then[38]else if m=1\/m=19 then[]else if 2<run.length then run.drop (run.length - 2)else run
def qjm:zU:=[97,98,99,100,101,102,103,104,105,106,107,108,109,110,111,112,113,114,115,116,117,118,119,120,121,122,65,66,67,68,69,70,71,72,73,74,75,76,77,78,79,80,81,82,83,84,85,86,87,88,89,90]
def bl:zU:=[9,10,12,13,32]
def bls:zU:=[9,10,12,13,32,47]
def zfg:List (List (zU×Int)):=[[],
 [([60],2)],
 [(qjm,3),([47],11),([33],13),([],-2)],
 [(bls,4),([62],-1)],
 [(bls,4),([62],-1),([],5)],
 [(bl,6),([61],7),([47],4),([62],-1)],
 [(bl,6),([61],7),([47],4),([62],-1),([],5)],
 [(bl,7),([34],8),([39],9),([62],-1),([],10)],
 [([34],4)],
 [([39],4)],
 [(bl,4),([62],-1)],
 [(qjm,12),([62],1),([],18)],
 [([62],1)],
 [([45],14),([62],1),([],18)],
 [([45],15),([62],1),([],18)],
 [([45],16)],
 [([45],17),([],15)],
 [([62],1),([45],17),([],15)],
 [([62],1)]]
def zcn:List (List (zU×Int)):=[
 [([34],21),([39],22),([96],23),([47],24)],
 [([34,10],20)],
 [([39,10],20)],
 [([96],20)],
 [([47],25),([42],26),([],-2)],
 [([10],20)],
 [([42],27)],
 [([47],20),([42],27),([],26)],
 [([34],29),([39],30),([47],31)],
 [([34,10],28)],
 [([39,10],28)],
 [([42],32),([],-2)],
 [([42],33)],
 [([47],28),([42],33),([],32)]]
def qkq(m:Nat):List (zU×Int):=zfg.getD m []
def qmv(m:Nat):List (zU×Int):=zcn.getD (m - 20) []
def qfn(m:Nat):List (zU×Int):=if 20<=m then qmv m else qkq m
def qla(b:UInt8)(r:zU×Int):Bool:=r.1==[] || among b r.1
def tgt(m:Nat)(b:UInt8):Int:=match (qfn m).find? (qla b)with
 |some r=>r.2
 |none=>m
def qfx(s:zU):zU:=if 9<s.length then s.take 9 else s
def qcw(far:Int)(b:UInt8):Int:=if(b==47 || (b==63 || (b==35 || (b==58 && far != 4))))=true then 1 else if far=2 then 3 else far
def Sp.named(p:Sp)(m:Nat)(b:UInt8)(tz:Int):Sp:=
 if 19<=tz then⟨0,p.tag,[],p.inside,[],0⟩
 else if tz=3 then⟨0,if m=2 then[small b]else qfx (p.tag++[small b]),[],p.inside,[],0⟩
 else if tz=5 then⟨0,p.tag,if m=5 then qfx (p.attr++[small b])else[small b],p.inside,[],0⟩
 else if tz=6\/tz=7\/tz=8\/tz=9 then⟨0,p.tag,p.attr,p.inside,[],0⟩
 else if tz=4\/tz=10 then⟨0,p.tag,[],p.inside,[],0⟩
 else⟨0,[],[],p.inside,[],0⟩
def runs(tz:Int):Bool:=tz==1 || (tz==8 || (tz==9 || qca tz))
def Sp.step1(p:Sp)(m:Nat)(b:UInt8):Sp:=
 if tgt m b=-1 then(if qav p.tag=1 then Sp.start else⟨qav p.tag,p.tag,[],[],[],0⟩)
 else⟨tgt m b,(p.named m b (tgt m b)).tag,(p.named m b (tgt m b)).attr,(p.named m b (tgt m b)).inside,
  if tgt m b=m/\runs (tgt m b)=true then kept (tgt m b) (p.run++[b])else[],
  if tgt m b=8\/tgt m b=9 then(if tgt m b=m then qcw p.far b else 2) else 0⟩
def qa8(m:Nat):Nat:=if m=24 then 20 else if m=31 then 28 else 1
def Sp.step(p:Sp)(m:Nat)(b:UInt8):Sp:=
 if tgt m b=-2 then(Sp.mk (qa8 m) p.tag p.attr p.inside [] p.far).step1 (qa8 m) b else p.step1 m b
def Sp.element(p:Sp)(m:Nat)(b:UInt8):Sp:=
 if p.read=(qcr p.tag).length/\among b qdl=true then(if b=62 then Sp.start else⟨12,[],[],[],[],0⟩)
 else if qca m=true/\qdz (qbg m) p.run=1 then⟨m,p.tag,p.attr,qce (p.inside++[b]),p.run++[b],p.far⟩
 else if m=19 then⟨m,p.tag,p.attr,qce (p.inside++[b]),kept m (p.run++[b]),p.far⟩
 else(Sp.mk m p.tag p.attr (qce (p.inside++[b])) p.run p.far).step m b
def Sp.next(p:Sp)(b:UInt8):Sp:=if 19<=p.mode.toNat then p.element p.mode.toNat b else p.step p.mode.toNat b
variable{n:Nat}{p:Sp}
theorem q57(l:zU):(qfx l).length<=9:=by
 unfold qfx;split
 ·rw[yP];omega
 ·omega
theorem qnf(l:zU):(qce l).length<=12:=by
 unfold qce;split
 ·rw[yM];omega
 ·omega
theorem q24(m:Int)(l:zU)(b:UInt8):(kept m (l++[b])).length<=l.length+1:=by
 unfold kept
 repeat' split
 all_goals simp
 all_goals omega
theorem qp0(m:Nat)(b:UInt8)(hm:m<=33):tgt m b=-1\/tgt m b=-2\/∃k:Nat,tgt m b=k/\k<=33:=by
 have key:∀k:Fin 34,∀r∈qfn k.val,-2<=r.2/\r.2<=33:=by decide
 have h:-2<=tgt m b/\tgt m b<=33:=by
  unfold tgt;split
  ·next r hr=>exact key ⟨m,by omega⟩ r (List.mem_of_find?_eq_some hr)
  ·omega
 by_cases h1:tgt m b=-1
 ·exact .inl h1
 by_cases h2:tgt m b=-2
 ·exact .inr (.inl h2)
 exact .inr (.inr ⟨(tgt m b).toNat,by omega,by omega⟩)
structure SpOk(n:Nat)(p:Sp):Prop where
 mode:∃m:Nat,p.mode=m/\m<=33
 tag:p.tag.length<=9
 attr:p.attr.length<=9
 inside:p.inside.length<=12
 run:p.run.length<=n
theorem qnj(n:Nat):SpOk n Sp.start:=⟨⟨1,rfl,by omega⟩,by decide,by decide,by decide,yH _⟩
theorem qyu(n:zU):qav n<=33:=by
 unfold qav
 repeat' split
 all_goals omega
theorem zb8(h:SpOk n p)(m:Nat)(b:UInt8)(tz:Int):(p.named m b tz).tag.length<=9/\(p.named m b tz).attr.length<=9/\(p.named m b tz).inside.length<=12:=by
 have a:=h.tag;have c:=h.attr;have d:=h.inside;unfold Sp.named
 repeat' split
 all_goals refine⟨?_,?_,?_⟩
 all_goals first|assumption|exact q57 _|simp
theorem q2o(h:SpOk n p)(m:Nat)(b:UInt8)(hm:m<=33)(h2:¬tgt m b=-2):SpOk (n+1) (p.step1 m b):=by
 unfold Sp.step1;by_cases h1:tgt m b=-1
 ·rw[if_pos h1]
  split
  ·exact qnj _
  ·exact⟨⟨_,rfl,qyu _⟩,h.tag,yH _,yH _,yH _⟩
 ·rw[if_neg h1]
  have k:=zb8 h m b (tgt m b);refine⟨?_,k.1,k.2.1,k.2.2,?_⟩
  ·rcases qp0 m b hm with q | q | q
   ·exact absurd q h1
   ·exact absurd q h2
   ·exact q
  ·show (if _ then _ else _:zU).length<=_
   split
   ·exact yh (q24 _ _ _) (Nat.succ_le_succ h.run)
   ·exact yH _
theorem ql4(m:Nat):qa8 m<=33:=by
 unfold qa8
 repeat' split
 all_goals omega
theorem qkf(m:Nat)(b:UInt8):¬tgt (qa8 m) b=-2:=by
 have key:∀r∈qfn 20++qfn 28++qfn 1,¬r.2=-2:=by decide
 have h:qa8 m=20\/qa8 m=28\/qa8 m=1:=by
  unfold qa8
  repeat' split
  all_goals simp
 intro q;unfold tgt at q;split at q
 ·next r hr=>
  have hr:=List.mem_of_find?_eq_some hr;refine key r ?_ q;rcases h with h|h|h<;>rw[h]at hr<;>simp[hr]
 ·omega
theorem q7r(h:SpOk n p)(m:Nat)(b:UInt8)(hm:m<=33):SpOk (n+1) (p.step m b):=by
 unfold Sp.step;split
 ·exact q2o (p:=Sp.mk (qa8 m) p.tag p.attr p.inside [] p.far) ⟨⟨qa8 m,rfl,ql4 m⟩,h.tag,h.attr,h.inside,yH _⟩ _ b (ql4 m) (qkf m b)
 ·next h2=>exact q2o h m b hm h2
theorem q6a(h:SpOk n p)(m:Nat)(b:UInt8)(hm:m<=33):SpOk (n+1) (p.element m b):=by
 unfold Sp.element;split
 ·split
  ·exact qnj _
  ·exact⟨⟨12,rfl,by omega⟩,by decide,by decide,by decide,yH _⟩
 ·split
  ·exact⟨⟨m,rfl,hm⟩,h.tag,h.attr,qnf _,by have:=h.run;simp only[yJ,List.length_singleton];omega⟩
  ·split
   ·exact⟨⟨m,rfl,hm⟩,h.tag,h.attr,qnf _,yh (q24 _ _ _) (Nat.succ_le_succ h.run)⟩
   ·exact q7r (p:=Sp.mk m p.tag p.attr (qce (p.inside++[b])) p.run p.far) ⟨⟨m,rfl,hm⟩,h.tag,h.attr,qnf _,h.run⟩ m b hm
theorem zfi(h:SpOk n p)(b:UInt8):SpOk (n+1) (p.next b):=by
 obtain⟨m,hm,ha⟩:=h.mode;have e:p.mode.toNat=m:=by rw[hm];rfl
 unfold Sp.next;rw[e];split
 ·exact q6a h m b ha
 ·exact q7r h m b ha
theorem qo0(n:zU):qje (qaw n):=by
 unfold qaw qje;split
 ·rename_i h
  exact .inr h
 ·exact .inl rfl
theorem qks{n:zU}(h:qje n):n.length<=8:=by
 rcases h with rfl|rfl|rfl|rfl|rfl<;>decide
theorem qs6(n:zU)(b:UInt8)(h:n.length<=9):(qc8 n b).length<=9:=by
 unfold qc8;split
 ·exact h
 ·rw[yJ];simp;omega
theorem qqy(n:zU):0<=qc1 n/\qc1 n<=3:=by
 unfold qc1;cases h:qdu.find? (qbc n)with
 |none=>exact⟨by decide,by decide⟩
 |some r=>
   have hm:=List.mem_of_find?_eq_some h;have:∀r∈qdu,0<=r.2.2/\r.2.2<=3:=by decide
   exact this r hm
theorem q9v:∀m,m<19->qa2.getD m false=false:=by decide
theorem q43:∀m,m<=33->qek.getD (qek.getD m 0) 0=0/\qek.getD m 0<=33:=by decide
theorem qkm(s:St)(b:UInt8):s.readEnd b<=s.ending.length:=by
 unfold St.readEnd;split
 ·rename_i h
  have:=(yb.1 h).1;omega
 ·split
  ·simp[St.ending]
  ·exact yH _
theorem q6y{n:zU}(h:qje n):(qad n).Ok:=by
 rcases h with rfl|rfl|rfl|rfl|rfl
 all_goals
  refine⟨by decide,by decide,by decide,fun _ _=>by decide,?_,by decide,by decide,by decide,by decide,by decide,by decide⟩;unfold qje;decide
theorem zbm:St.start.Ok:=by
 refine⟨by decide,by decide,by decide,fun _ _=>rfl,.inl rfl,fun _=>⟨rfl,rfl⟩,fun _=>rfl,fun _=>rfl,by decide,by decide,fun h=>by revert h;decide⟩
theorem zc7(b:UInt8):(St.mk (qc3 b) [] [] 0 0 false).Ok:=by
 unfold qc3;split
 all_goals
  refine⟨by decide,by decide,by decide,fun _ _=>rfl,.inl rfl,fun _=>⟨rfl,rfl⟩,fun _=>rfl,fun _=>rfl,by decide,by decide,fun h=>by revert h;decide⟩
theorem zbk{s:St}(b:UInt8)(h:s.Ok)(ha:s.esc=false):(s.table b).Ok:=by
 rw[qo8];have hs:=qqa s.mode h.lo h.hi b;have hn:=h.named;unfold qr3 at hs;simp only[yL,yN,yU]at hs;generalize qbx s.mode b=r at hs |-;generalize qdg s.mode b=t at hs |-;obtain⟨⟨⟨⟨⟨⟨⟨⟨⟨⟨r1,r2⟩,t1⟩,t2⟩,hf⟩,hr⟩,Hc⟩,h3⟩,h5⟩,h4⟩,hp⟩:=hs;obtain⟨m,n,e,k,rd,x⟩:=s;simp only at *;subst ha;have g1:=h.name;have g2:=h.elem;have g3:=h.bare;have g4:=h.low;have g6:=h.read;have g7:=h.wrap;have g8:=h.high;simp only at g1 g2 g3 g4 g6 g7 g8;have hZ:∃zn ze zk,(St.mk r n e k rd false).led t b=(St.mk r zn ze zk rd false).led1 t b/\zn.length<=9/\(t≠3->t≠5->zn=[])/\qje ze/\-3<=zk/\zk<=3/\(r≠3\/t=r->ze=e)/\(r≠5\/t=r->zk=k):=by
  by_cases ht:t=r
  ·refine⟨n,e,k,?_,g1,?_,g2,g7.1,g7.2,fun _=>rfl,fun _=>rfl⟩
   ·unfold St.led;rw[if_pos ht]
   ·intro a b
    refine hn ?_ ?_<;>omega
  ·refine⟨[],if r=3 then qaw n else e,if r=5 then qc1 n else k,?_,by simp,fun _ _=>rfl,?_,?_,?_,?_,?_⟩
   ·unfold St.led;rw[if_neg ht];rfl
   ·split
    ·exact qo0 n
    ·exact g2
   ·split
    ·have:=qqy n;omega
    ·exact g7.1
   ·split
    ·have:=qqy n;omega
    ·exact g7.2
   ·intro hh
    rw[if_neg (by omega)]
   ·intro hh
    rw[if_neg (by omega)]
 obtain⟨zn,ze,zk,Ha,z1,z2,z3,z4,z5,z6,z7⟩:=hZ;rw[Ha];unfold St.led1;have Hb:m<19->rd=0:=g4;by_cases c3:t=3
 ·rw[if_pos c3]
  simp only[c3,if_true,yU,yN]at h3;have hb:=g3 (by omega);refine⟨by simp only;omega,by simp only;omega,qs6 zn b z1,fun hh=>absurd c3 hh,z3,fun _=>?_,fun _=>g4 (by omega),fun _=>rfl,by have:=g4 (by omega);simp only;omega,⟨z4,z5⟩,fun hh=>by simp only at hh;omega⟩;refine⟨(z6 ?_).trans hb.1,(z7 (by omega)).trans hb.2⟩;omega
 rw[if_neg c3];by_cases c5:t=5
 ·rw[if_pos c5]
  simp only[c5,if_true,yU,yN]at h5;refine⟨by simp only;omega,by simp only;omega,qs6 zn b z1,fun _ hh=>absurd c5 hh,z3,fun hh=>by simp only at hh;omega,fun _=>g4 (by omega),fun _=>rfl,by have:=g4 (by omega);simp only;omega,⟨by simp only;omega,by simp only;omega⟩,fun hh=>by simp only at hh;omega⟩
 rw[if_neg c5];have hc:=z2 c3 c5;by_cases c4:t=4\/t=10
 ·rw[if_pos c4]
  rw[if_pos (by omega)]at h4;simp only[yL,yN]at h4;refine⟨by simp only;omega,by simp only;omega,z1,fun _ _=>hc,z3,fun hh=>by simp only at hh;omega,fun _=>g4 (by omega),fun _=>rfl,by have:=g4 (by omega);simp only;omega,⟨by simp only;omega,by simp only;omega⟩,fun hh=>by simp only at hh;omega⟩
 rw[if_neg c4];by_cases c34:t=34
 ·rw[if_pos c34]
  exact q6y z3
 rw[if_neg c34];have he:(m<19↔t<19)/\(m<19↔r<19):=by
  by_cases hm:m<19
  ·rw[if_pos hm]at hf
   simp only[yL,yU,yN]at hf;omega
  ·rw[if_neg hm]at hf
   simp only[yL,yN]at hf;omega
 refine⟨by simp only;omega,by simp only;omega,z1,fun _ _=>hc,z3,fun hh=>?_,fun hh=>g4 (by simp only at hh;omega),fun _=>rfl,?_,⟨z4,z5⟩,fun hh=>?_⟩
 ·simp only at hh
  rw[if_pos (by omega)]at hp;simp only[yL,yU,yN]at hp;have hb:=g3 (by omega);exact⟨(z6 (by omega)).trans hb.1,(z7 (by omega)).trans hb.2⟩
 ·by_cases hm:m<19
  ·have:=g4 hm;simp only;omega
  ·have:=z6 (by omega)
   subst this;exact g6
 ·simp only at hh
  have hb:=g8 (by omega);exact⟨by rw[show ze=e from z6 (by omega)];exact hb.1,(z7 (by omega)).trans hb.2⟩
theorem qy9{s:St}(b:UInt8)(h:s.Ok):(s.behind b).Ok:=by
 have quiet:∀s:St,s.Ok->(s.quiet b).Ok:=by
  intro s h;unfold St.quiet;split
  ·rename_i hq
   simp only[yL]at hq;exact⟨h.lo,h.hi,h.name,h.named,h.elem,h.bare,h.low,fun hh=>(by simp only at hh;rw[hq.1]at hh;cases hh),h.read,h.wrap,h.high⟩
  ·rename_i hq
   refine zbk b h ?_;by_cases he:qa2.getD s.mode false=true
   ·rw[he,Bool.true_and]at hq
    simp only[yU,not_or,Bool.not_eq_true]at hq;exact hq.1
   ·exact h.calm (ye.2 he)
 unfold St.behind;split
 ·split
  ·exact zc7 b
  ·refine quiet _ ⟨h.lo,h.hi,h.name,h.named,h.elem,h.bare,fun hh=>?_,h.calm,qkm s b,h.wrap,h.high⟩
   simp only at hh;omega
 ·exact quiet _ h
theorem qmm(l e:zU)(n:Nat)(hn:n<=e.length):qgb l e n=true↔e.take n <:+ l.map small:=by
 unfold qgb;rw[yL,yN,yF];constructor
 ·rintro⟨h,q⟩
  rw[<-q,List.map_drop];exact List.drop_suffix _ _
 ·intro h
  have hl:=h.length_le;rw[yP,yR,Nat.min_eq_left hn]at hl;refine⟨hl,?_⟩;rw[List.map_drop];have:=List.suffix_iff_eq_drop.1 h;rw[yP,yR,Nat.min_eq_left hn]at this;exact this.symm
theorem qqi(l e:zU):∀k,qbr l e k<=k
 |0=>yg _
 |k+1=>by
   unfold qbr;split
   ·exact yg _
   ·exact Nat.le_succ_of_le (qqi l e k)
theorem qnm(l e:zU):∀k,qbr l e k=0\/qgb l e (qbr l e k)=true
 |0=>.inl rfl
 |k+1=>by
   unfold qbr;split
   ·next h=>exact .inr h
   ·exact qnm l e k
theorem qnl(l e:zU):∀k n,n<=k->qgb l e n=true->n<=qbr l e k
 |0,n,hn,_=>by omega
 |k+1,n,hn,h=>by
   unfold qbr;split
   ·exact hn
   ·next h'=>
    rcases Nat.lt_or_ge n (k+1)with q|q
    ·exact qnl l e k n (by omega) h
    ·have:n=k+1:=by omega
     subst this;exact absurd h h'
def Once(e:zU):Prop:=∀j,1<=j->e[j]?≠some 60
theorem qvh(l e:zU)(he:Once e)(h0:e[0]?=some 60)(n k:Nat)(hn:n<=e.length)(hk:k<=e.length)(h1:1<=n)(hb:n<=k)(hN:qgb l e n=true)(hK:qgb l e k=true):n=k:=by
 rw[qmm _ _ _ hn]at hN;rw[qmm _ _ _ hk]at hK;obtain⟨a,ha⟩:=hN;obtain⟨c,hc⟩:=hK;have Ha:a.length+n=c.length+k:=by
  have:=yE List.length (ha.trans hc.symm);simpa [List.length_append,List.length_take,Nat.min_eq_left hn,Nat.min_eq_left hk]using this
 rcases Nat.lt_or_ge n k with q|q
 ·exfalso
  have g1:(a++e.take n)[a.length]?=some 60:=by
   rw[yt (yg _),xA,List.getElem?_take,if_pos (by omega)];exact h0
  have g2:(c++e.take k)[a.length]?=e[k - n]?:=by
   rw[yt (by omega),List.getElem?_take,if_pos (by omega),show a.length - c.length=k - n by omega]
  rw[ha,<-hc,g2]at g1;exact he (k - n) (by omega) g1
 ·omega
theorem q0u(l e:zU)(b:UInt8)(n:Nat)(hn:n<e.length):qgb (l++[b]) e (n+1)=true↔qgb l e n=true/\e[n]?=some (small b):=by
 rw[qmm _ _ _ hn,qmm _ _ _ (yj hn)];have ht:e.take (n+1)=e.take n++[e[n]]:=yB hn;rw[ht,yG,List.map_singleton,yc hn];constructor
 ·rintro⟨a,ha⟩
  rw[<-yq]at ha;obtain⟨x,y⟩:=List.append_inj' ha rfl;simp only[List.cons.injEq,and_true]at y;exact⟨⟨a,x⟩,by rw[y]⟩
 ·rintro⟨⟨a,ha⟩,hb⟩
  simp only[Option.some.injEq]at hb;exact⟨a,by rw[<-yq,ha,hb]⟩
theorem qst(l e:zU):qgb l e 0=true:=by simp[qgb]
theorem q0w(l e:zU)(b:UInt8)(he:Once e)(h0:e[0]?=some 60) :
  qbr (l++[b]) e e.length=if e[qbr l e e.length]?=some (small b)then qbr l e e.length+1 else if b=60 then 1 else 0:=by
 have Ha:0<e.length:=by
  rcases Nat.eq_zero_or_pos e.length with q|q
  ·rw[yC q]at h0;simp at h0
  ·exact q
 have He:small b=60↔b=60:=by
  have:∀n∈List.range 256,(small (UInt8.ofNat n)=60↔UInt8.ofNat n=60):=by decide +kernel
  have:=this b.toNat (xh.2 b.toNat_lt)
  rwa [UInt8.ofNat_toNat]at this
 have hz:qgb l e (qbr l e e.length)=true:=by
  rcases qnm l e e.length with q|q
  ·rw[q];exact qst _ _
  ·exact q
 have Hb:∀n,n<=e.length->qgb l e n=true->n=0\/n=qbr l e e.length:=by
  intro n hn h;rcases Nat.eq_zero_or_pos n with q|q
  ·exact .inl q
  ·have:=qnl l e e.length n hn h
   exact .inr (qvh l e he h0 n _ hn (qqi _ _ _) q this h hz)
 generalize qbr l e e.length=r at *;have ha:∀n,n+1<=e.length->qgb (l++[b]) e (n+1)=true->(n=0\/n=r)/\e[n]?=some (small b):=by
  intro n hn h;obtain⟨p,q⟩:=(q0u l e b n (by omega)).1 h;exact⟨Hb n (by omega) p,q⟩
 have Hc:=qqi (l++[b]) e e.length;have hb:=qnm (l++[b]) e e.length;have hc:=qnl (l++[b]) e e.length;generalize qbr (l++[b]) e e.length=R at *;by_cases c1:e[r]?=some (small b)
 ·rw[if_pos c1]
  have hr:=(yb.1 c1).1;have hR:=(q0u l e b r hr).2 ⟨hz,c1⟩;have g1:=hc (r+1) hr hR;have g2:qgb (l++[b]) e R=true:=by
   rcases hb with q|q
   ·omega
   ·exact q
  exact(qvh (l++[b]) e he h0 (r+1) R hr Hc (by omega) g1 hR g2).symm
 ·rw[if_neg c1]
  by_cases c2:b=60
  ·rw[if_pos c2]
   have hR:=(q0u l e b 0 Ha).2 ⟨qst _ _,by rw[h0,He.2 c2]⟩;have g1:=hc 1 Ha hR;have g2:qgb (l++[b]) e R=true:=by
    rcases hb with q|q
    ·omega
    ·exact q
   exact(qvh (l++[b]) e he h0 1 R Ha Hc (by omega) g1 hR g2).symm
  ·rw[if_neg c2]
   rcases hb with q|q
   ·exact q
   ·rcases Nat.eq_zero_or_pos R with z | z
    ·exact z
    ·exfalso
     obtain⟨n,rfl⟩:∃n,R=n+1:=⟨R - 1,by omega⟩;obtain⟨x,y⟩:=ha n Hc q;rcases x with rfl|rfl
     ·rw[h0]at y
      simp only[Option.some.injEq]at y;exact c2 (He.1 y.symm)
     ·exact c1 y
theorem q0v(l e:zU)(he:e.length<=12):qbr (qce l) e e.length=qbr l e e.length:=by
 have key:∀n,n<=e.length->qgb (qce l) e n=qgb l e n:=by
  intro n hn;unfold qce;split
  ·next h=>
   unfold qgb;rw[yM,yD];rw[show l.length - 12+(l.length - (l.length - 12) - n)=l.length - n by omega];have:decide (n<=l.length - (l.length - 12))=decide (n<=l.length):=by rw[decide_eq_decide];omega
   rw[this]
  ·rfl
 have:∀k,k<=e.length->qbr (qce l) e k=qbr l e k:=by
  intro k
  induction k with
  |zero=>intro _;rfl
  |succ k ih=>intro hk;unfold qbr;rw[key _ hk,ih (by omega)]
 exact this _ (yg _)
theorem zb5{n:zU}(h:qje n):Once (qcr n)/\(qcr n)[0]?=some 60/\(qcr n).length<=12:=by
 refine⟨?_,rfl,by have:=qks h;unfold qcr;simp only[yK];omega⟩;have key:∀n:zU,qje n->(qcr n).length<=10:=by
  intro n h;have:=qks h;unfold qcr;simp only[yK];omega
 intro j hj hq;have hl:=(yb.1 hq).1;have ha:=key n h;have hb:(List.range 10).all (fun j=>j==0 || !((qcr n)[j]?==some 60))=true:=by
  rcases h with rfl|rfl|rfl|rfl|rfl<;>decide
 have:=yX.1 hb j (xh.2 (by omega));simp only[yU,yF,Bool.not_eq_true',yf]at this;rcases this with h|h
 ·omega
 ·exact h hq
theorem qqg(l n:zU)(b:UInt8)(h:qje n) :
  qbr (qce (l++[b])) (qcr n) (qcr n).length=if(qcr n)[qbr l (qcr n) (qcr n).length]?=some (small b)then qbr l (qcr n) (qcr n).length+1 else if b=60 then 1 else 0:=by
 obtain⟨a,c,d⟩:=zb5 h;rw[q0v _ _ d,q0w _ _ _ a c]
theorem qm7(b:UInt8):among b qjm=qbl b:=by
 have:∀n∈List.range 256,among (UInt8.ofNat n) qjm=qbl (UInt8.ofNat n):=by decide +kernel
 have:=this b.toNat (xh.2 b.toNat_lt)
 rwa [UInt8.ofNat_toNat]at this
theorem q5s(b:UInt8):qbl (cls b)=qbl b:=by
 have:∀n∈List.range 256,qbl (cls (UInt8.ofNat n))=qbl (UInt8.ofNat n):=by decide +kernel
 have:=this b.toNat (xh.2 b.toNat_lt)
 rwa [UInt8.ofNat_toNat]at this
theorem q2f(b:UInt8)(l:zU)(hl:l.all (fun c=>among c named && !qbl c)=true):among b l=among (cls b) l:=by
 have h1:l.all (fun c=>among c named)=true:=by
  rw[yX]at hl |-;intro c hc;have:=hl c hc;rw[yL]at this;exact this.1
 rw[<-qzj b l h1];unfold qec;by_cases hb:qbl b=true
 ·rw[if_pos hb]
  have no:∀x,qbl x=true->among x l=false:=by
   intro x hx;rw[ye];intro hq;have:=yX.1 hl x (qho.1 hq);rw[hx]at this;simp at this
  rw[no b hb,no 97 (by decide)]
 ·rw[if_neg hb]
def q75(l:List (zU×Int)):Bool:=l.all fun r=>r.1==qjm || r.1.all (fun c=>among c named && !qbl c)
theorem q4y:((List.range 34).all fun m=>q75 (qfn m))=true:=by decide +kernel
theorem qnc(m:Nat)(hm:m<=33)(b:UInt8):tgt m b=tgt m (cls b):=by
 have hp:=yX.1 q4y m (xh.2 (by omega));unfold tgt;rw[qnu (qfn m)];intro r hr;have:=yX.1 hp r hr;rw[yU,yF]at this;unfold qla;rcases this with h|h
 ·rw[h,qm7,qm7,q5s]
 ·rw[q2f b r.1 h]
def qv6(m:Nat)(c:UInt8):Bool:=
 if tgt m c=-2 then decide (qbx m c=qa8 m) && decide ((qdg m c:Int)=tgt (qa8 m) c) && decide (tgt (qa8 m) c≠-1)
 else if tgt m c=-1 then decide (qbx m c=m) && decide (qdg m c=34) && decide (3<=m) && decide (m<=10)
 else decide (qbx m c=m) && decide ((qdg m c:Int)=tgt m c)
theorem zau:((List.range 34).all fun m=>m==0 || (0::named).all fun c=>qv6 m c)=true:=by decide +kernel
theorem qm8(m:Nat)(h1:1<=m)(h2:m<=33)(b:UInt8):qv6 m b=true:=by
 have e:qv6 m b=qv6 m (cls b):=by
  have ha:=ql4 m;unfold qv6;rw[qnc m h2 b,qnk,qxn,qnc _ ha b]
 rw[e];have:=(yX.1 zau) m (xh.2 (by omega));simp only[yU,yF]at this;rcases this with h|h
 ·omega
 ·exact yX.1 h _ (ql1 b)
structure Par(s:St)(p:Sp):Prop where
 mode:p.mode=(s.mode:Int)
 tagName:s.mode=3->p.tag=s.name
 attrName:s.mode=5->p.attr=s.name
 inTag:4<=s.mode->s.mode<=10->qaw p.tag=s.elem
 tag:19<=s.mode->p.tag=s.elem
 read:19<=s.mode->p.read=s.read
 esc:qca s.mode=true->s.esc=decide (qdz (qbg s.mode) p.run=1)
theorem qqm:Par St.start Sp.start:=
 ⟨rfl,fun h=>(by cases h),fun h=>(by cases h),fun h=>(by revert h;decide),fun h=>(by revert h;decide),fun h=>(by revert h;decide),fun h=>(by revert h;decide)⟩
theorem qm0(n:zU)(b:UInt8)(h:n.length<=9):qfx (n++[small b])=qc8 n b:=by
 unfold qfx qc8;by_cases q:n.length=9
 ·rw[if_pos q,if_pos (by simp;omega),xE (by omega),yp (by omega)]
 ·rw[if_neg q,if_neg (by simp;omega)]
theorem ql0(n:zU):qav (qaw n)=qav n:=by
 unfold qaw;split
 ·rfl
 ·next h=>
  simp only[not_or]at h;unfold qav;rw[if_neg h.1,if_neg h.2.1,if_neg h.2.2.1,if_neg h.2.2.2];rfl
theorem qos(n:zU)(h:qav n≠1):qaw n=n:=by
 unfold qav at h;unfold qaw;split
 ·rfl
 ·next q=>
  simp only[not_or]at q;rw[if_neg q.1,if_neg q.2.1,if_neg q.2.2.1,if_neg q.2.2.2]at h;exact absurd rfl h
theorem qvv(n:zU):qca (qav n)=false:=by
 unfold qav
 repeat' split
 all_goals decide
theorem zbu(n:zU)(m:Int)(a r:zU)(f:Int):(Sp.mk m n a [] r f).read=0:=by
 have key:∀k,qbr [] (qcr n) k=0:=by
  intro k
  induction k with
  |zero=>rfl
  |succ k ih=>unfold qbr;rw[ih];simp[qgb]
 exact key _
theorem q32(n:zU)(t:zU)(h:qaw t=n):Par (qad n) (if qav t=1 then Sp.start else⟨qav t,t,[],[],[],0⟩):=by
 subst h;unfold qad;rw[ql0];by_cases h:qav t=1
 ·rw[if_pos h,if_pos h]
  exact qqm
 ·rw[if_neg h,if_neg h,qos t h]
  have ha:=qvv t;refine⟨rfl,fun q=>?_,fun q=>?_,fun q q'=>qos t h,fun _=>rfl,fun _=>zbu _ _ _ _ _,fun q=>by rw[ha]at q;cases q⟩
  all_goals
   exfalso;simp only at q
   revert q
   unfold qav
   repeat' split
   all_goals decide
theorem q1v(css:Bool)(left:Int)(b:UInt8)(h1:left≠1)(hb:b≠92):qcp css left b≠1:=by
 unfold qcp;rw[if_neg h1]
 repeat' split
 all_goals first|omega|exact absurd ‹_› hb
theorem qoq(css:Bool)(left:Int)(h1:left≠1):qcp css left 92=1:=by
 unfold qcp;rw[if_neg h1,if_neg (fun h=>absurd h.2 (by decide)),if_pos rfl]
theorem qvn(css:Bool)(b:UInt8):qcp css 1 b≠1:=by
 unfold qcp;rw[if_pos rfl]
 repeat' split
 all_goals decide
theorem qg4(css:Bool)(run:zU)(b:UInt8):qdz css (run++[b])=qcp css (qdz css run) b:=by simp[qdz]
theorem q23(m:Int)(run:zU)(h:qca m=true):decide (qdz (qbg m) (kept m run)=1)=decide (qdz (qbg m) run=1):=by
 unfold kept;rw[if_pos h];by_cases q:qdz (qbg m) run=0
 ·rw[if_pos q,q];rfl
 ·rw[if_neg q]
theorem qxs:∀m:Nat,m<=33->qa2.getD m false=qca (m:Int):=by decide
theorem q28(m:Nat)(hm:m<=33)(h:qca (m:Int)=true):19<=m:=by
 have:∀m:Nat,m<=33->qca (m:Int)=true->19<=m:=by decide
 exact this m hm h
theorem zd8(s:St)(t:Nat)(b:UInt8)(h:t≠34):(s.led1 t b).mode=t/\(s.led1 t b).elem=s.elem/\(s.led1 t b).read=s.read/\(s.led1 t b).esc=s.esc/\(t=3\/t=5->(s.led1 t b).name=qc8 s.name b):=by
 unfold St.led1;by_cases c3:t=3
 ·rw[if_pos c3];exact⟨rfl,rfl,rfl,rfl,fun _=>rfl⟩
 rw[if_neg c3];by_cases c5:t=5
 ·rw[if_pos c5];exact⟨rfl,rfl,rfl,rfl,fun _=>rfl⟩
 rw[if_neg c5];have no:¬(t=3\/t=5):=by omega
 by_cases c4:t=4\/t=10
 ·rw[if_pos c4];exact⟨rfl,rfl,rfl,rfl,fun q=>absurd q no⟩
 rw[if_neg c4,if_neg h];exact⟨rfl,rfl,rfl,rfl,fun q=>absurd q no⟩
theorem zcf(s:St)(t:Nat)(b:UInt8)(h:t≠34):(s.led t b).mode=t/\(s.led t b).elem=(if t≠s.mode/\s.mode=3 then qaw s.name else s.elem)/\(s.led t b).read=s.read/\(s.led t b).esc=s.esc/\(t=3\/t=5->(s.led t b).name=qc8 (if t=s.mode then s.name else[]) b):=by
 unfold St.led;by_cases q:t=s.mode
 ·rw[if_pos q,if_pos q,if_neg (fun z=>z.1 q)]
  exact zd8 s t b h
 ·rw[if_neg q,if_neg q]
  obtain⟨a,c,d,e,f⟩:=zd8 s.named t b h;refine⟨a,c.trans ?_,d,e,f⟩;unfold St.named;by_cases w:s.mode=3
  ·have:t≠s.mode/\s.mode=3:=⟨q,w⟩
   rw[if_pos this,if_pos w]
  ·have:¬(t≠s.mode/\s.mode=3):=fun z=>w z.2
   rw[if_neg this,if_neg w]
theorem qu9(m:Nat)(n e:zU)(k:Int)(rd:Nat)(p:Sp)(b:UInt8)(hs:(St.mk m n e k rd false).Ok)(hp:Par (St.mk m n e k rd false) p)(r t:Nat)(PR:zU)(PF:Int)
  (Hf:r=m->PR=p.run) (hb:qca (m:Int)=true->b≠92)
  (Ha:qr3 m b=true) (hr:qbx m b=r) (ht:qdg m b=t)
  (hT:tgt r b=t\/(tgt r b=-1/\t=34/\r=m)) :
  Par ((St.mk r n e k rd false).led t b) ((Sp.mk r p.tag p.attr p.inside PR PF).step1 r b):=by
 unfold qr3 at Ha;simp only[yL,yN,yU]at Ha;rw[hr,ht]at Ha;obtain⟨⟨⟨⟨⟨⟨⟨⟨⟨⟨r1,r2⟩,t1⟩,t2⟩,hf⟩,hg⟩,Hg⟩,h3⟩,h5⟩,h4⟩,Hj⟩:=Ha;have g1:=hs.name;have g2:=hs.named;have g3:=hs.bare;have g4:=hs.low;have ghi:=hs.hi;have e3:=hp.tagName;have e5:=hp.attrName;have e4:=hp.inTag;have e19:=hp.tag;have erd:=hp.read;have ees:=hp.esc;simp only at g1 g2 g3 g4 ghi e3 e5 e4 e19 erd ees;have hk:(m<19↔(t<19\/t=34))/\(m<19↔r<19):=by
  by_cases hm:m<19
  ·rw[if_pos hm]at hf
   simp only[yL,yU,yN]at hf;omega
  ·rw[if_neg hm]at hf
   simp only[yL,yN]at hf;omega
 clear hf;unfold Sp.step1;simp only;rcases hT with hT|⟨hT,hc,Hc⟩
 ·have c34:t≠34:=by
   intro c34;have:=qp0 r b r2;rw[hT]at this;subst c34;rcases this with q|q|⟨k,q,q'⟩<;>omega
  rw[hT,if_neg (by omega)];obtain⟨fm,fe,fr,fx,fn⟩:=zcf (St.mk r n e k rd false) t b c34;simp only at fe fr fx fn;generalize (St.mk r n e k rd false).led t b=S at fm fe fr fx fn;have he:t=3\/t=5\/t=4\/(6<=t/\t<=10)->r=m:=by
   intro q;rcases hg with z|z
   ·rcases z with z | z
    ·exact z
    ·exfalso
     have:∀c∈(0::named:zU),tgt 1 c=1\/tgt 1 c=2:=by decide
     have h1:=this _ (ql1 b);rw[<-qnc 1 (by omega) b]at h1;rw[z.2]at hT;omega
   ·omega
  refine⟨?_,fun q=>?_,fun q=>?_,fun q q'=>?_,fun q=>?_,fun q=>?_,fun q=>?_⟩
  ·rw[fm]
  ·rw[fm]at q
   have ha:=he (.inl q);rw[if_pos q]at h3;simp only[yU,yN]at h3;rw[fn (.inl q)];show(Sp.named ⟨(r:Int),p.tag,p.attr,p.inside,PR,PF⟩ r b t).tag=_;unfold Sp.named;rw[if_neg (by omega),if_pos (by omega)];show(if r=2 then[small b]else qfx (p.tag++[small b]))=qc8 (if t=r then n else[]) b;rcases h3 with z|z
   ·rw[if_pos (by omega),if_neg (by omega)];rfl
   ·rw[if_neg (by omega),if_pos (by omega)]
    rw[e3 z,qm0 _ _ g1]
  ·rw[fm]at q
   have ha:=he (.inr (.inl q));rw[fn (.inr q)];show(Sp.named ⟨(r:Int),p.tag,p.attr,p.inside,PR,PF⟩ r b t).attr=_;unfold Sp.named;rw[if_neg (by omega),if_neg (by omega),if_pos (by omega)];show(if r=5 then qfx (p.attr++[small b])else[small b])=qc8 (if t=r then n else[]) b;by_cases z:r=5
   ·rw[if_pos z,if_pos (by omega)]
    rw[e5 (by omega),qm0 _ _ g1]
   ·rw[if_neg z,if_neg (by omega)];rfl
  ·rw[fm]at q q'
   rw[fe];have ha:=he (by omega);have h4:3<=m/\m<=10:=by
    by_cases z:t=5
    ·rw[if_pos z]at h5
     simp only[yU,yN]at h5;omega
    ·rw[if_pos (by omega)]at h4
     simpa only [yL,yN]using h4
   have He:(Sp.named ⟨(r:Int),p.tag,p.attr,p.inside,PR,PF⟩ r b t).tag=p.tag:=by
    unfold Sp.named;rw[if_neg (by omega),if_neg (by omega)];split
    ·rfl
    ·split
     ·rfl
     ·rw[if_pos (by omega)]
   rw[He];by_cases z:r=3
   ·have y:t≠r/\r=3:=⟨by omega,z⟩
    rw[if_pos y,e3 (by omega)]
   ·have y:¬(t≠r/\r=3):=fun y=>z y.2
    rw[if_neg y];exact e4 (by omega) (by omega)
  ·rw[fm]at q
   have z:¬(t≠r/\r=3):=by omega
   rw[fe,if_neg z];show(Sp.named ⟨(r:Int),p.tag,p.attr,p.inside,PR,PF⟩ r b t).tag=_;unfold Sp.named;rw[if_pos (by omega)];exact e19 (by omega)
  ·rw[fm]at q
   rw[fr];show qbr (Sp.named ⟨(r:Int),p.tag,p.attr,p.inside,PR,PF⟩ r b t).inside (qcr (Sp.named ⟨(r:Int),p.tag,p.attr,p.inside,PR,PF⟩ r b t).tag) (qcr (Sp.named ⟨(r:Int),p.tag,p.attr,p.inside,PR,PF⟩ r b t).tag).length=_;unfold Sp.named;rw[if_pos (by omega)];exact erd (by omega)
  ·rw[fm]at q
   rw[fx,fm];show _=decide (qdz (qbg t) (if _ then _ else _)=1);by_cases c:(t:Int)=r/\runs t=true
   ·rw[if_pos c,q23 _ _ q,qg4]
    have Hb:t=r:=by omega
    have ha:r=m:=by
     by_cases y:r=m
     ·exact y
     ·exfalso
      have Hi:r=qhm m:=by
       unfold qbx at hr;split at hr
       ·exact hr.symm
       ·exact absurd hr.symm y
      have:∀m:Nat,m<=33->qca (qhm m:Nat)=false:=by decide
      rw[Hb,Hi,this m ghi]at q;cases q
    have hj:=ees (by rw[<-ha,<-Hb];exact q);rw[eq_comm,yO];refine q1v _ _ _ ?_ (hb (by rw[<-ha,<-Hb];exact q));rw[Hf ha,Hb,ha];simpa using hj.symm
   ·rw[if_neg c]
    rfl
 ·subst hc Hc
  rw[hT,if_pos rfl];have hm:=Hg;simp only[if_true,yL,yN]at hm;have hl:(St.mk r n e k rd false).led 34 b=qad (if r=3 then qaw n else e):=by
   unfold St.led;have z:¬ 34=(St.mk r n e k rd false).mode:=by show ¬ 34=r;omega
   rw[if_neg z];rfl
  rw[hl];refine q32 _ _ ?_;split
  ·next c=>rw[e3 c]
  ·next c=>exact e4 (by omega) (by omega)
theorem qp4(m:Nat)(n e:zU)(k:Int)(rd:Nat)(p:Sp)(b:UInt8)(hs:(St.mk m n e k rd false).Ok)(hp:Par (St.mk m n e k rd false) p)(PR:zU)(PF:Int)(PM:Int)(hM:PM=m)(Hb:PR=p.run)(hb:qca (m:Int)=true->b≠92) :
  Par ((St.mk m n e k rd false).table b) ((Sp.mk PM p.tag p.attr p.inside PR PF).step m b):=by
 subst hM;rw[qo8];have h1:=hs.lo;have h2:=hs.hi;simp only at h1 h2;have ha:=qm8 m h1 h2 b;have Ha:=qqa m h1 h2 b;unfold qv6 at ha;unfold Sp.step;by_cases c2:tgt m b=-2
 ·rw[if_pos c2]at ha |-
  simp only[yL,yN]at ha;obtain⟨⟨a1,a2⟩,a3⟩:=ha;have ne:qa8 m≠m:=by
   intro q;have:=qkf m b;rw[q]at this;exact this c2
  exact qu9 m n e k rd p b hs hp (qa8 m) (qdg m b) [] PF (fun q=>absurd q ne) hb Ha a1 rfl (.inl a2.symm) |> fun h=>by rw[a1];exact h
 ·rw[if_neg c2]at ha |-
  by_cases c1:tgt m b=-1
  ·rw[if_pos c1]at ha
   simp only[yL,yN]at ha;rw[ha.1.1.1];exact qu9 m n e k rd p b hs hp m (qdg m b) PR PF (fun _=>Hb) hb Ha ha.1.1.1 rfl (.inr ⟨c1,ha.1.1.2,rfl⟩)
  ·rw[if_neg c1]at ha
   simp only[yL,yN]at ha;rw[ha.1];exact qu9 m n e k rd p b hs hp m (qdg m b) PR PF (fun _=>Hb) hb Ha ha.1 rfl (.inl ha.2.symm)
theorem qty(m:Nat)(hm:m<=33)(h:qca (m:Int)=true):tgt m 92=m:=by
 have:∀m:Nat,m<=33->qca (m:Int)=true->tgt m 92=m:=by decide
 exact this m hm h
theorem zb7(s:St)(p:Sp)(b:UInt8)(hs:s.Ok)(hp:Par s p):Par (s.behind b) (p.next b):=by
 obtain⟨m,n,e,k,rd,x⟩:=s;have h1:=hs.lo;have h2:=hs.hi;have hb:=hs.calm;have Hb:=hp.mode;simp only at h1 h2 hb Hb;unfold Sp.next;rw[Hb,Int.toNat_natCast];by_cases hm:19<=m
 ·rw[if_pos hm]
  have hg:=hp.tag hm;have Hg:=hp.read hm;simp only at hg Hg;have Ha:∀PR PF,(Sp.mk m p.tag p.attr (qce (p.inside++[b])) PR PF).read=(St.mk m n e k rd x).readEnd b:=by
   intro PR PF;show qbr (qce (p.inside++[b])) (qcr p.tag) (qcr p.tag).length=_;rw[hg,qqg _ _ _ hs.elem];have hr:qbr p.inside (qcr e) (qcr e).length=rd:=by
    have:p.read=qbr p.inside (qcr e) (qcr e).length:=by unfold Sp.read;rw[hg]
    rw[<-this];exact Hg
   rw[hr];rfl
  have Hi:(St.mk m n e k ((St.mk m n e k rd x).readEnd b) x).Ok:=
   ⟨h1,h2,hs.name,hs.named,hs.elem,hs.bare,fun hh=>by simp only at hh;omega,hs.calm,qkm _ b,hs.wrap,hs.high⟩
  have He:∀PF,Par (St.mk m n e k ((St.mk m n e k rd x).readEnd b) x) (Sp.mk m p.tag p.attr (qce (p.inside++[b])) p.run PF):=fun PF=>
   ⟨rfl,hp.tagName,hp.attrName,hp.inTag,hp.tag,fun _=>Ha _ _,hp.esc⟩
  unfold Sp.element St.behind;rw[if_pos hm];have hc:(St.mk m n e k rd x).ends b=true↔(p.read=(qcr p.tag).length/\among b qdl=true):=by
   unfold St.ends;rw[yL,yN,Hg,hg];rfl
  by_cases ce:p.read=(qcr p.tag).length/\among b qdl=true
  ·rw[if_pos ce,if_pos (hc.2 ce)]
   unfold qc3;by_cases c62:b=62
   ·rw[if_pos c62,if_pos c62];exact qqm
   ·rw[if_neg c62,if_neg c62]
    refine⟨rfl,fun h=>(by simp at h),fun h=>(by simp at h),fun h h'=>(by simp at h'),fun h=>(by simp at h),fun h=>(by simp at h),fun h=>(by revert h;decide)⟩
  ·rw[if_neg ce,if_neg (fun h=>ce (hc.1 h))]
   have hf:=qxs m h2;generalize hj:(St.mk m n e k rd x).readEnd b=rd' at *;show Par ((St.mk m n e k rd' x).quiet b) _;unfold St.quiet;simp only;rw[hf];by_cases cs:qca (m:Int)=true
   ·have Hc:=hp.esc cs
    simp only at Hc;by_cases c1:qdz (qbg m) p.run=1
    ·have w:qca (m:Int)=true/\qdz (qbg m) p.run=1:=⟨cs,c1⟩
     rw[if_pos w];have hx:x=true:=by rw[Hc,c1];rfl
     subst hx;rw[cs];show Par (St.mk m n e k rd' false) _;refine⟨rfl,hp.tagName,hp.attrName,hp.inTag,hp.tag,fun _=>Ha _ _,fun _=>?_⟩;show false=_;rw[eq_comm,yO,qg4,c1];exact qvn _ _
    ·have w:¬(qca (m:Int)=true/\qdz (qbg m) p.run=1):=fun h=>c1 h.2
     have w19:¬m=19:=by intro h;subst h;revert cs;decide
     rw[if_neg w,if_neg w19];have hx:x=false:=by rw[Hc];exact yx c1
     subst hx;by_cases cb:b=92
     ·subst cb
      rw[cs];show Par (St.mk m n e k rd' true) _;unfold Sp.step Sp.step1;rw[qty m h2 cs,if_neg (by omega),if_neg (by omega)];have Hj:Sp.named ⟨(m:Int),p.tag,p.attr,qce (p.inside++[92]),p.run,p.far⟩ m 92 (m:Int)=⟨0,p.tag,[],qce (p.inside++[92]),[],0⟩:=by
       unfold Sp.named;rw[if_pos (by omega)]
      rw[Hj];have Hf:(m:Int)=(m:Int)/\runs (m:Int)=true:=⟨rfl,by unfold runs;rw[cs];simp⟩;rw[if_pos Hf];refine⟨rfl,fun q=>?_,fun q=>?_,fun q q'=>?_,hp.tag,fun _=>Ha [] 0,fun _=>?_⟩
      ·simp only at q;omega
      ·simp only at q;omega
      ·simp only at q';omega
      ·show true=_
       rw[q23 _ _ cs,qg4,qoq _ _ c1];rfl
     ·have w2:¬(qca (m:Int) && (false || b==92))=true:=by rw[cs];simpa using cb
      rw[if_neg w2];exact qp4 m n e k rd' ⟨m,p.tag,p.attr,qce (p.inside++[b]),p.run,p.far⟩ b Hi (He _) _ _ _ rfl rfl (fun _=>cb)
   ·have cs':=ye.2 cs
    have w:¬(qca (m:Int)=true/\qdz (qbg m) p.run=1):=fun h=>cs h.1;have w2:¬(qca (m:Int) && (x || b==92))=true:=by rw[cs'];simp
    rw[if_neg w,if_neg w2];have hx:x=false:=hb (by rw[hf];exact cs');subst hx;by_cases w19:m=19
    ·subst w19
     rw[if_pos rfl];have ha:=qm8 19 (by omega) (by omega) b;have ht:tgt 19 b=19:=rfl;unfold qv6 at ha;rw[ht,if_neg (by omega),if_neg (by omega)]at ha;simp only[yL,yN]at ha;rw[qo8];show Par ((St.mk (qbx 19 b) n e k rd' false).led (qdg 19 b) b) _;rw[ha.1,show qdg 19 b=19 by omega];exact⟨rfl,hp.tagName,hp.attrName,hp.inTag,hp.tag,fun _=>Ha [] 0,fun h=>by replace h:qca 19=true:=h;cases h⟩
    ·rw[if_neg w19]
     exact qp4 m n e k rd' ⟨m,p.tag,p.attr,qce (p.inside++[b]),p.run,p.far⟩ b Hi (He _) _ _ _ rfl rfl (fun h=>absurd h cs)
 ·rw[if_neg hm]
  unfold St.behind;rw[if_neg hm];unfold St.quiet;have he:qa2.getD m false=false:=q9v m (by omega);have hx:x=false:=hb he;subst hx;have w2:¬(qa2.getD m false && (false || b==92))=true:=by rw[he];simp
  show Par (if(qa2.getD m false && (false || b==92))=true then _ else _) _;rw[if_neg w2];exact qp4 m n e k rd p b hs hp p.run p.far p.mode Hb rfl (fun h=>by have:=q28 m h2 h;omega)
def qei(p:Sp)(l:zU):Sp:=l.foldl Sp.next p
def St.nowRead(s:St)(b:UInt8):Nat:=if 19<=s.mode then s.readEnd b else s.read
theorem q3x(x:Sx)(b:UInt8)(hm:19<=x.st.mode)(he:x.st.ends b=true):x.behind b=⟨⟨qc3 b,[],[],0,0,false⟩,Mk.none⟩:=by
 have h1:x.st.behind b=⟨qc3 b,[],[],0,0,false⟩:=by unfold St.behind;rw[if_pos hm,if_pos he]
 have h2:qe8 x.st x.ma b=Mk.none:=by unfold qe8;rw[if_pos ⟨hm,he⟩]
 show Sx.mk (x.st.behind b) (qe8 x.st x.ma b)=_;rw[h1,h2]
theorem q3w(x:Sx)(b:UInt8)(he:¬(19<=x.st.mode/\x.st.ends b=true)):x.behind b=⟨(St.mk x.st.mode x.st.name x.st.elem x.st.kind (x.st.nowRead b) x.st.esc).quiet b,qls x.st x.ma b⟩:=by
 have h1:x.st.behind b=(St.mk x.st.mode x.st.name x.st.elem x.st.kind (x.st.nowRead b) x.st.esc).quiet b:=by
  unfold St.behind St.nowRead;by_cases hm:19<=x.st.mode
  ·rw[if_pos hm,if_pos hm,if_neg (fun q=>he ⟨hm,q⟩)]
  ·rw[if_neg hm,if_neg hm]
 have h2:qe8 x.st x.ma b=qls x.st x.ma b:=by unfold qe8;rw[if_neg he]
 show Sx.mk (x.st.behind b) (qe8 x.st x.ma b)=_;rw[h1,h2]
theorem qy7(x:Sx)(b:UInt8)(he:¬(19<=x.st.mode/\x.st.ends b=true))(hq:(qa2.getD x.st.mode false && (x.st.esc || b==92))=true) :
  x.behind b=⟨⟨x.st.mode,x.st.name,x.st.elem,x.st.kind,x.st.nowRead b,!x.st.esc⟩,qa7 x.st.mode x.st.esc b⟩:=by
 rw[q3w x b he];unfold St.quiet qls;simp only;rw[hq,if_pos rfl,if_pos rfl]
theorem qrn(x:Sx)(b:UInt8)(r t:Nat)(he:¬(19<=x.st.mode/\x.st.ends b=true))(hq:(qa2.getD x.st.mode false && (x.st.esc || b==92))=false)(hr:qbx x.st.mode b=r)(ht:qdg x.st.mode b=t) :
  x.behind b=Sx.led ⟨⟨r,x.st.name,x.st.elem,x.st.kind,x.st.nowRead b,x.st.esc⟩,x.ma⟩ t b:=by
 rw[q3w x b he];unfold St.quiet qls;simp only;rw[hq,if_neg (by simp),if_neg (by simp),qo8];simp only;rw[hr,ht];rfl
theorem at_a(m:Nat)(b:UInt8)(hT:¬qc6 m b=0):qbx m b=m/\qdg m b=or3 (qc6 m b) (qe1.getD m 0) m:=by
 have h:qbx m b=m:=by unfold qbx;rw[if_neg (fun q=>hT q.1)]
 unfold qdg;rw[h];exact⟨rfl,rfl⟩
theorem at_b(m:Nat)(b:UInt8)(hT:qc6 m b=0)(hR:qek.getD m 0=0):qbx m b=m/\qdg m b=or3 0 (qe1.getD m 0) m:=by
 have h:qbx m b=m:=by unfold qbx;rw[if_neg (fun q=>q.2 hR)]
 unfold qdg;rw[h,hT];exact⟨rfl,rfl⟩
theorem at_c(m R:Nat)(b:UInt8)(hT:qc6 m b=0)(hR:qek.getD m 0=R)(h0:R≠0):qbx m b=R/\qdg m b=or3 (qc6 R b) (qe1.getD R 0) R:=by
 have h:qbx m b=R:=by unfold qbx qhm;rw[if_pos ⟨hT,by rw[hR];exact h0⟩,hR]
 unfold qdg;rw[h];exact⟨rfl,rfl⟩
structure MkOk(k:Mk):Prop where
 hex:0<=k.hex/\k.hex<=5
 pct:0<=k.pct/\k.pct<=2
theorem qjw:MkOk Mk.none:=⟨by decide,by decide⟩
theorem q3l(n:Int)(b:UInt8)(m:Int)(h:n<=m)(hm:0<=m):0<=qds n b/\qds n b<=m:=by
 unfold qds;split
 ·next q=>omega
 ·omega
theorem q0c(kind:Int)(m:Nat)(k:Mk)(b:UInt8)(h:MkOk k):MkOk (qch kind m k b):=by
 have h1:=h.hex;have h2:=h.pct;have f1:=q3l k.hex b 5 h1.2 (by omega);have f2:=q3l k.pct b 2 h2.2 (by omega);refine⟨f1,?_⟩;show 0<=(if _ then _ else _:Int)/\(if _ then _ else _:Int)<=2;split
 ·split
  ·omega
  ·exact f2
 ·omega
theorem qop(m:Nat)(e:Bool)(b:UInt8):MkOk (qa7 m e b):=by
 unfold qa7;split
 ·exact qjw
 ·split
  ·next r hr=>
   have hm:=List.mem_of_find?_eq_some hr;have:∀r∈qfd,0<=r.2.2.2/\r.2.2.2<=5:=by decide
   exact⟨this r hm,by show(0:Int)<=0/\(0:Int)<=2;omega⟩
  ·exact qjw
theorem zcg(s:St)(k:Mk)(t:Nat)(b:UInt8)(h:MkOk k):MkOk (qms s k t b):=by
 unfold qms;split
 ·exact q0c _ _ _ _ h
 ·exact qjw
theorem q2e(s:St)(k:Mk)(b:UInt8)(h:MkOk k):MkOk (qe8 s k b):=by
 unfold qe8;split
 ·exact qjw
 ·unfold qls
  split
  ·exact qop _ _ _
  ·exact zcg _ _ _ _ h
structure SxOk(x:Sx):Prop where
 st:x.st.Ok
 ma:MkOk x.ma
theorem qkj:SxOk Sx.start:=⟨zbm,qjw⟩
theorem qlk{x:Sx}(b:UInt8)(h:SxOk x):SxOk (x.behind b):=⟨qy9 b h.st,q2e _ _ b h.ma⟩
theorem qwn(l:zU):∀x:Sx,SxOk x->SxOk (qax x l):=by
 induction l with
 |nil=>intro x h;exact h
 |cons b l ih=>intro x h;exact ih _ (qlk b h)
def pct1(b:UInt8):zU->Int
 |[]=>0
 |c::_=>if c=37/\among b qa1=true then 1 else 0
def pctR:zU->Int
 |[]=>0
 |b::l=>if b=37 then 2 else pct1 b l
theorem zby(l:zU):pctR (37::l)=2:=rfl
theorem q03{b:UInt8}(l:zU)(h:b≠37):pctR (b::l)=pct1 b l:=if_neg h
def qhq(run:zU):Int:=pctR run.reverse
theorem qjp(b:UInt8)(l:zU):refR (b::l)=(b==38 || (among b qdj && refR l)):=by
 have e:refR (b::l)=if b=38 then true else if among b qdj=true then refR l else false:=rfl;rw[e];by_cases h:b=38
 ·rw[if_pos h,yF.2 h];rfl
 ·rw[if_neg h,yf.2 h,Bool.false_or]
  by_cases q:among b qdj=true
  ·rw[if_pos q,q,Bool.true_and]
  ·rw[if_neg q,ye.2 q,Bool.false_and]
theorem q41(l:zU)(b:UInt8):qie (l++[b])=(b==38 || (among b qdj && qie l)):=by
 unfold qie;rw[List.reverse_append];exact qjp b _
theorem zct(b:UInt8):qxy b=among b qdj:=by
 have:∀n∈List.range 256,qxy (UInt8.ofNat n)=among (UInt8.ofNat n) qdj:=by decide +kernel
 have:=this b.toNat (xh.2 b.toNat_lt)
 rwa [UInt8.ofNat_toNat]at this
theorem q5a(b:UInt8)(l:zU):pct1 b l=0\/pct1 b l=1:=by
 match l with
 |[]=>exact .inl rfl
 |c::t=>
   have e:pct1 b (c::t)=if c=37/\among b qa1=true then 1 else 0:=rfl;rw[e];split
   ·exact .inr rfl
   ·exact .inl rfl
theorem q48(l:zU):pctR l=0\/pctR l=1\/(pctR l=2/\∃t,l=37::t):=by
 match l with
 |[]=>exact .inl rfl
 |b::l=>
   by_cases h:b=37
   ·subst h;exact .inr (.inr ⟨rfl,l,rfl⟩)
   ·rw[q03 l h]
    rcases q5a b l with q|q
    ·exact .inl q
    ·exact .inr (.inl q)
theorem q8f(b:UInt8)(l:zU):pctR (b::l)=if b=37 then 2 else qds (pctR l) b:=by
 by_cases h:b=37
 ·subst h;rfl
 ·rw[if_neg h,q03 l h]
  match l with
  |[]=>simp[qds,pctR,pct1]
  |c::t=>
    by_cases hc:c=37
    ·subst hc
     rw[zby];have e:pct1 b (37::t)=if(37:UInt8)=37/\among b qa1=true then 1 else 0:=rfl;rw[e];unfold qds;by_cases hb:among b qa1=true
     ·have h1:(37:UInt8)=37/\among b qa1=true:=⟨rfl,hb⟩
      have h2:(0:Int)<2/\among b hexB=true:=⟨by omega,hb⟩;rw[if_pos h1,if_pos h2];rfl
     ·have h1:¬((37:UInt8)=37/\among b qa1=true):=fun q=>hb q.2
      have h2:¬((0:Int)<2/\among b hexB=true):=fun q=>hb q.2;rw[if_neg h1,if_neg h2]
    ·have h1:pct1 b (c::t)=0:=if_neg (fun q=>hc q.1)
     rw[h1];rcases q48 (c::t)with q|q|⟨_,t',q⟩
     ·rw[q];unfold qds;rw[if_neg (fun z=>absurd z.1 (by omega))]
     ·rw[q];unfold qds;split<;>rfl
     ·simp only[List.cons.injEq]at q;exact absurd q.1 hc
theorem q49(l:zU)(b:UInt8):qhq (l++[b])=if b=37 then 2 else qds (qhq l) b:=by
 unfold qhq;rw[List.reverse_append];exact q8f b _
theorem ze9:∀r:zU,refR r=true->pctR r=0
 |[],h=>by cases h
 |b::l,h=>by
   rw[qjp]at h;have hb:b≠37:=by
    rintro rfl
    revert h
    have z:((37:UInt8)==38)=false:=by decide
    rw[z,show among 37 qdj=false by decide];simp
   rw[q03 l hb]
   match l,h with
   |[],_=>rfl
   |c::t,h=>
     refine if_neg ?_;rintro⟨rfl,q⟩;have ha:refR (37::t)=false:=by rw[qjp];rw[show((37:UInt8)==38)=false by decide,show among 37 qdj=false by decide];rfl
     rw[ha,Bool.and_false,Bool.or_false,yF]at h;subst h
     revert q;decide
theorem q7l(r:zU)(h:refR r=false):refR (r.take 2)=false:=by
 match r,h with
 |[],_=>rfl
 |[b],h=>exact h
 |b::c::t,h=>
   show refR [b,c]=false;rw[qjp,qjp]at h |-;cases hb:(b==38)
   ·rw[hb]at h
    cases ha:among b qdj
    ·rfl
    ·rw[ha]at h
     cases hc:(c==38)
     ·rw[show refR []=false from rfl,Bool.and_false];rfl
     ·rw[hc]at h;cases h
   ·rw[hb]at h;cases h
theorem q7m(r:zU):pctR (r.take 2)=pctR r:=by
 match r with
 |[]=>rfl
 |[b]=>rfl
 |b::c::t=>rfl
theorem q3q(l:zU):(l.drop (l.length - 2)).reverse=l.reverse.take 2:=by
 rw[List.reverse_drop];by_cases h:2<=l.length
 ·congr 1;omega
 ·rw[show l.length - (l.length - 2)=l.length by omega,yp (by simp),yp (by simp;omega)]
theorem zci(m:Int)(l:zU)(hm:qca m=false):qie (kept m l)=qie l:=by
 unfold kept;rw[if_neg (by rw[hm];simp)];by_cases h:qie l=true
 ·rw[if_pos h,h];rfl
 ·rw[if_neg h]
  have h':=ye.2 h;split
  ·rw[h'];rfl
  ·split
   ·unfold qie
    rw[q3q,q7l _ h'];exact h'.symm
   ·rfl
theorem zcj(m:Int)(l:zU)(hm:qca m=false)(h1:¬(m=1\/m=19)):qhq (kept m l)=qhq l:=by
 unfold kept;rw[if_neg (by rw[hm];simp)];by_cases h:qie l=true
 ·rw[if_pos h]
  exact(show qhq [38]=0 from rfl).trans (ze9 _ h).symm
 ·rw[if_neg h,if_neg h1]
  split
  ·unfold qhq
   rw[q3q,q7m]
  ·rfl
theorem q25(m:Int)(l:zU)(hm:qca m=true):qdz (qbg m) (kept m l)=qdz (qbg m) l:=by
 unfold kept;rw[if_pos hm];split
 ·next h=>rw[h];rfl
 ·rfl
def qj4(f:Int):Int:=if f=0 then 2 else if f=1 then 3 else if f=2 then 4 else 1
structure MkPar(kind:Int)(m:Nat)(k:Mk)(esc:Bool)(run:zU)(far:Int):Prop where
 ref:k.ref=(decide (qa0 m=1) && qie run)
 hex:0<=k.hex
 str:qca m=true->(if esc=true then(1:Int)else if k.hex=0 then 0 else k.hex+1)=qdz (qbg m) run
 nostr:qca m=false->esc=false/\k.hex=0
 link:qb4 kind m=true->k.pct=qhq run/\qj4 k.far=far/\0<=k.far/\k.far<=3
 nolink:qb4 kind m=false->k.pct=0/\k.far=0
theorem qdy{kind:Int}{m:Nat}(h:qb4 kind m=true):(m=8\/m=9)/\kind=1:=by
 unfold qb4 at h;rw[yL,yU,yF,yF,yF]at h;exact⟨h.2,h.1⟩
theorem qf8:∀m:Nat,m<=33->qca (m:Int)=true->qa0 m≠1/\m≠8/\m≠9/\m≠1/\m≠19:=by
 have:∀m:Nat,m<=33->qca (m:Int)=true->qa0 m≠1/\m≠8/\m≠9/\m≠1/\m≠19:=by decide
 exact this
theorem q4b:∀m:Nat,m<=33->qa0 m=1->m=1\/m=8\/m=9\/m=19:=by decide
theorem q8r(kind:Int)(m:Nat):MkPar kind m Mk.none false [] (if m=8\/m=9 then 2 else 0):=by
 refine⟨?_,by decide,fun _=>rfl,fun _=>⟨rfl,rfl⟩,fun h=>⟨rfl,?_,by decide,by decide⟩,fun _=>⟨rfl,rfl⟩⟩
 ·show false=_
  rw[show qie []=false from rfl,Bool.and_false]
 ·rw[if_pos (qdy h).1];rfl
theorem qmr(kind:Int)(m:Nat)(far:Int)(h:m≠8)(h':m≠9):MkPar kind m Mk.none false [] far:=by
 refine⟨?_,by decide,fun _=>rfl,fun _=>⟨rfl,rfl⟩,fun q=>?_,fun _=>⟨rfl,rfl⟩⟩
 ·show false=_
  rw[show qie []=false from rfl,Bool.and_false]
 ·exfalso
  rcases(qdy q).1 with z|z
  ·exact h z
  ·exact h' z
theorem zc2(kind:Int)(m:Nat)(f:Int)(b:UInt8)(hl:qb4 kind m=true)(ha:0<=f)(Ha:f<=3):qj4 (qdt kind m f b)=qcw (qj4 f) b/\0<=qdt kind m f b/\qdt kind m f b<=3:=by
 have hf:f=0\/f=1\/f=2\/f=3:=by omega
 unfold qdt qcd;rw[hl,Bool.true_and];have hd:among b qhz=(b==47 || (b==63 || (b==35 || b==58))):=by
  have:∀n∈List.range 256,among (UInt8.ofNat n) qhz=((UInt8.ofNat n)==47 || ((UInt8.ofNat n)==63 || ((UInt8.ofNat n)==35 || (UInt8.ofNat n)==58))):=by decide +kernel
  have:=this b.toNat (xh.2 b.toNat_lt)
  rwa [UInt8.ofNat_toNat]at this
 rw[hd];unfold qcw;cases h1:(b==47)<;>cases h2:(b==63)<;>cases h3:(b==35)<;>cases h4:(b==58)
 all_goals
  rcases hf with rfl|rfl|rfl|rfl
  all_goals first
   |(refine⟨?_,?_,?_⟩<;>decide)
   |(exfalso;first|exact absurd ((yF.1 h1).symm.trans (yF.1 h2)) (by decide)|exact absurd ((yF.1 h1).symm.trans (yF.1 h3)) (by decide)|exact absurd ((yF.1 h1).symm.trans (yF.1 h4)) (by decide)|exact absurd ((yF.1 h2).symm.trans (yF.1 h3)) (by decide)|exact absurd ((yF.1 h2).symm.trans (yF.1 h4)) (by decide)|exact absurd ((yF.1 h3).symm.trans (yF.1 h4)) (by decide))
theorem q9x(css:Bool)(h:Int)(b:UInt8)(h0:0<=h)(hb:b≠92):(if qds h b=0 then(0:Int)else qds h b+1)=qcp css (if h=0 then 0 else h+1) b:=by
 have hL:((if h=0 then 0 else h+1:Int)=0/\h=0)\/((if h=0 then 0 else h+1:Int)=h+1/\1<=h):=by
  by_cases hz:h=0
  ·left;exact⟨if_pos hz,hz⟩
  ·right;exact⟨if_neg hz,by omega⟩
 generalize (if h=0 then 0 else h+1:Int)=L at hL;unfold qcp qds;have ha:among b hexB=among b qa1:=rfl;rw[ha];have h1:¬L=1:=by omega
 rw[if_neg h1];by_cases hx:among b qa1=true
 ·rcases hL with ⟨q,z⟩ | ⟨q,z⟩
  ·have c1:¬(0<h/\among b qa1=true):=fun q=>by omega
   have c2:¬(1<L/\among b qa1=true):=fun q=>by omega
   rw[if_neg c1,if_neg c2,if_neg hb];rfl
  ·have c1:0<h/\among b qa1=true:=⟨by omega,hx⟩
   have c2:1<L/\among b qa1=true:=⟨by omega,hx⟩;rw[if_pos c1,if_pos c2];by_cases y:h - 1=0
   ·rw[if_pos y,if_pos (by omega)]
   ·rw[if_neg y,if_neg (by omega)];omega
 ·have c1:¬(0<h/\among b qa1=true):=fun q=>hx q.2
  have c2:¬(1<L/\among b qa1=true):=fun q=>hx q.2;rw[if_neg c1,if_neg c2,if_neg hb];rfl
theorem qs2(kind:Int)(m:Nat)(hm:m<=33)(k:Mk)(run:zU)(far:Int)(b:UInt8)(h:MkPar kind m k false run far)(hb:qca (m:Int)=true->b≠92)
  (run':zU) (far':Int) (ha:(qca (m:Int)=true\/qa0 m=1)->run'=kept m (run++[b])) (Ha:m=8\/m=9->far'=qcw far b) :
  MkPar kind m (qch kind m k b) false run' far':=by
 by_cases hs:qca (m:Int)=true
 ·obtain⟨n1,n8,n9,_,_⟩:=qf8 m hm hs
  have hl:qb4 kind m=false:=by
   rw[ye];intro q;rcases(qdy q).1 with z|z
   ·exact n8 z
   ·exact n9 z
  have hc:=h.str hs;rw[if_neg (by simp)]at hc;have h0:=h.hex;refine⟨?_,?_,fun _=>?_,fun q=>?_,fun q=>?_,fun _=>⟨?_,?_⟩⟩
  ·unfold qch;rw[if_neg n1,yx n1,Bool.false_and]
  ·show 0<=qds k.hex b
   unfold qds;split
   ·next q=>omega
   ·omega
  ·rw[if_neg (by simp),ha (.inl hs),q25 _ _ hs,qg4,<-hc]
   exact q9x _ _ _ h0 (hb hs)
  ·rw[hs]at q;cases q
  ·rw[hl]at q;cases q
  ·unfold qch;rw[hl];rfl
  ·unfold qch;rw[hl];rfl
 ·have Hb:=ye.2 hs
  obtain⟨_,Hc⟩:=h.nostr Hb;refine⟨?_,?_,fun q=>absurd q hs,fun _=>⟨rfl,?_⟩,fun hl=>?_,fun hl=>⟨?_,?_⟩⟩
  ·by_cases hw:qa0 m=1
   ·rw[yV hw,Bool.true_and,ha (.inr hw),zci _ _ Hb,q41]
    unfold qch;rw[if_pos hw,zct,h.ref,yV hw,Bool.true_and,Bool.and_comm]
   ·rw[yx hw,Bool.false_and]
    unfold qch;rw[if_neg hw]
  ·show 0<=qds k.hex b
   rw[Hc];unfold qds;rw[if_neg (fun q=>absurd q.1 (by omega))];omega
  ·show qds k.hex b=0
   rw[Hc];unfold qds;rw[if_neg (fun q=>absurd q.1 (by omega))]
  ·obtain⟨l1,l2,l3,l4⟩:=h.link hl
   have he:=(qdy hl).1;have hw:qa0 m=1:=by rcases he with rfl|rfl<;>rfl
   obtain⟨f1,f2,f3⟩:=zc2 kind m k.far b hl l3 l4;have e1:(qch kind m k b).pct=if b=37 then 2 else qds k.pct b:=by unfold qch;rw[hl];rfl
   have e2:(qch kind m k b).far=qdt kind m k.far b:=by unfold qch;rw[hl];rfl
   rw[e1,e2,ha (.inr hw),zcj _ _ Hb (by omega),q49,l1,Ha he,<-l2];exact⟨rfl,f1,f2,f3⟩
  ·unfold qch;rw[hl];rfl
  ·unfold qch;rw[hl];rfl
structure ParX(x:Sx)(p:Sp):Prop where
 par:Par x.st p
 kind:6<=x.st.mode->x.st.mode<=9->x.st.kind=qc1 p.attr
 plain:¬(6<=x.st.mode/\x.st.mode<=9)->x.st.kind=0
 ma:MkPar x.st.kind x.st.mode x.ma x.st.esc p.run p.far
theorem qxm(s:St)(t:Nat)(b:UInt8)(h:t≠34):(s.led1 t b).kind=if t=4\/t=5\/t=10 then 0 else s.kind:=by
 unfold St.led1;by_cases c3:t=3
 ·rw[if_pos c3,if_neg (by omega)]
 rw[if_neg c3];by_cases c5:t=5
 ·rw[if_pos c5,if_pos (by omega)]
 rw[if_neg c5];by_cases c4:t=4\/t=10
 ·rw[if_pos c4,if_pos (by omega)]
 rw[if_neg c4,if_neg h,if_neg (by omega)]
theorem qva(s:St)(t:Nat)(b:UInt8)(h:t≠34):(s.led t b).kind=if t=4\/t=5\/t=10 then 0 else if t≠s.mode/\s.mode=5 then qc1 s.name else s.kind:=by
 unfold St.led;by_cases q:t=s.mode
 ·have:¬(t≠s.mode/\s.mode=5):=fun z=>z.1 q
  rw[if_pos q,qxm s t b h,if_neg this]
 ·rw[if_neg q,qxm _ t b h]
  unfold St.named;by_cases w:s.mode=5
  ·have:t≠s.mode/\s.mode=5:=⟨q,w⟩
   rw[if_pos this,if_pos w]
  ·have:¬(t≠s.mode/\s.mode=5):=fun z=>w z.2
   rw[if_neg this,if_neg w]
theorem q5n{kind kind':Int}{m:Nat}{k:Mk}{esc:Bool}{run:zU}{far:Int}(h:MkPar kind m k esc run far)(h8:m≠8)(h9:m≠9):MkPar kind' m k esc run far:=by
 have no:∀z,qb4 z m=false:=fun z=>by
  rw[ye];intro q;rcases(qdy q).1 with y|y
  ·exact h8 y
  ·exact h9 y
 exact⟨h.ref,h.hex,h.str,h.nostr,fun q=>(by rw[no]at q;cases q),fun _=>h.nolink (no _)⟩
def qze(m:Nat)(c:UInt8):Bool:=if 6<=tgt m c/\tgt m c<=9 then decide (5<=m) && decide (m<=9)else true
theorem q6r:((List.range 34).all fun m=>(0::named).all fun c=>qze m c)=true:=by decide +kernel
theorem q6s(m:Nat)(hm:m<=33)(b:UInt8)(h:6<=tgt m b/\tgt m b<=9):5<=m/\m<=9:=by
 have e:qze m b=qze m (cls b):=by unfold qze;rw[qnc m hm b]
 have:=yX.1 ((yX.1 q6r) m (xh.2 (by omega))) _ (ql1 b);rw[<-e]at this;unfold qze at this;rw[if_pos h]at this;simpa only [yL,yN]using this
theorem ze7(r:Nat)(hr:r<=33)(ha:r≠19)(h:qca (r:Int)=true\/qa0 r=1):runs (r:Int)=true:=by
 unfold runs;rcases h with h|h
 ·rw[h];simp
 ·rcases q4b r hr h with rfl | rfl | rfl | rfl
  ·rfl
  ·rfl
  ·rfl
  ·exact absurd rfl ha
theorem qpn(n:zU):(qad n).kind=0/\(qad n).esc=false/\(qad n).mode≠8/\(qad n).mode≠9/\¬(6<=(qad n).mode/\(qad n).mode<=9):=by
 unfold qad qav
 repeat' split
 all_goals refine⟨rfl,rfl,?_,?_,?_⟩<;>simp
theorem qu8(m:Nat)(n e:zU)(k:Int)(rd:Nat)(K:Mk)(p:Sp)(b:UInt8)(hs:(St.mk m n e k rd false).Ok)(hx:ParX ⟨St.mk m n e k rd false,K⟩ p)(r t:Nat)(PR:zU)(PF:Int)
  (hj:r=m->PR=p.run/\PF=p.far) (hk:r≠m->K=Mk.none/\PR=[]) (hb:qca (m:Int)=true->b≠92) (Hk:r≠19)
  (hc:qr3 m b=true) (hr:qbx m b=r) (ht:qdg m b=t)
  (hT:tgt r b=t\/(tgt r b=-1/\t=34/\r=m)) :
  ParX (Sx.led ⟨St.mk r n e k rd false,K⟩ t b) ((Sp.mk r p.tag p.attr p.inside PR PF).step1 r b):=by
 have Hc:=qu9 m n e k rd p b hs hx.par r t PR PF (fun q=>(hj q).1) hb hc hr ht hT;unfold qr3 at hc;simp only[yL,yN,yU]at hc;rw[hr,ht]at hc;obtain⟨⟨⟨⟨⟨⟨⟨⟨⟨⟨r1,r2⟩,t1⟩,t2⟩,hf⟩,Hl⟩,Ho⟩,h3⟩,h5⟩,h4⟩,Hj⟩:=hc;have ghi:=hs.hi;have gk:=hx.kind;have gp:=hx.plain;have gm:=hx.ma;have e5:=hx.par.attrName;simp only at ghi gk gp gm e5;have hp:(m<19↔(t<19\/t=34))/\(m<19↔r<19):=by
  by_cases hm:m<19
  ·rw[if_pos hm]at hf
   simp only[yL,yU,yN]at hf;omega
  ·rw[if_neg hm]at hf
   simp only[yL,yN]at hf;omega
 clear hf;have Hm:MkPar k r K false PR PF:=by
  by_cases q:r=m
  ·obtain⟨q1,q2⟩:=hj q
   rw[q1,q2,q];exact gm
  ·obtain⟨q1,q2⟩:=hk q
   rw[q1,q2];refine qmr k r PF ?_ ?_<;>omega
 rcases hT with hT|⟨hT,Hf,hg⟩
 ·have c34:t≠34:=by
   intro c34;have:=qp0 r b r2;rw[hT]at this;subst c34;rcases this with q|q|⟨k,q,q'⟩<;>omega
  obtain⟨fm,_,_,fx,_⟩:=zcf (St.mk r n e k rd false) t b c34;have fk:=qva (St.mk r n e k rd false) t b c34;simp only at fx fk;have hn:t=3\/t=5\/t=4\/(6<=t/\t<=10)->r=m:=by
   intro q;rcases Hl with z|z
   ·rcases z with z | z
    ·exact z
    ·exfalso
     have:∀c∈(0::named:zU),tgt 1 c=1\/tgt 1 c=2:=by decide
     have h1:=this _ (ql1 b);rw[<-qnc 1 (by omega) b]at h1;rw[z.2]at hT;omega
   ·omega
  have Ha:((Sp.mk r p.tag p.attr p.inside PR PF).step1 r b)=⟨t,(Sp.named ⟨r,p.tag,p.attr,p.inside,PR,PF⟩ r b t).tag,(Sp.named ⟨r,p.tag,p.attr,p.inside,PR,PF⟩ r b t).attr,(Sp.named ⟨r,p.tag,p.attr,p.inside,PR,PF⟩ r b t).inside,
    (if(t:Int)=r/\runs t=true then kept t (PR++[b]) else[]),(if(t:Int)=8\/(t:Int)=9 then(if(t:Int)=r then qcw PF b else 2) else 0)⟩:=by
   unfold Sp.step1;rw[hT,if_neg (by omega)]
  have Hg:(Sx.led ⟨St.mk r n e k rd false,K⟩ t b).ma=if t=r then qch k r K b else Mk.none:=by
   show qms _ _ _ _=_;unfold qms;by_cases q:t=r
   ·rw[if_pos q,if_pos ⟨q,c34⟩]
   ·rw[if_neg q,if_neg (fun z=>q z.1)]
  have he:(Sx.led ⟨St.mk r n e k rd false,K⟩ t b).st=(St.mk r n e k rd false).led t b:=rfl;refine⟨Hc,fun q q'=>?_,fun q=>?_,?_⟩
  ·rw[he,fm]at q q'
   rw[he,fk,Ha];have Hn:=hn (by omega);have ha:=q6s r r2 b (by rw[hT];omega);have He:(Sp.named ⟨r,p.tag,p.attr,p.inside,PR,PF⟩ r b t).attr=p.attr:=by
    unfold Sp.named;rw[if_neg (by omega),if_neg (by omega),if_neg (by omega),if_pos (by omega)]
   show _=qc1 (Sp.named ⟨r,p.tag,p.attr,p.inside,PR,PF⟩ r b t).attr;rw[He,if_neg (by omega)];by_cases z:r=5
   ·have y:t≠r/\r=5:=⟨by omega,z⟩
    rw[if_pos y,e5 (by omega)]
   ·have y:¬(t≠r/\r=5):=fun y=>z y.2
    rw[if_neg y];exact gk (by omega) (by omega)
  ·rw[he,fm]at q
   rw[he,fk];by_cases z:t=4\/t=5\/t=10
   ·rw[if_pos z]
   ·rw[if_neg z]
    have Hp:¬(4<=m/\m<=10):=by
     by_cases y:t=3
     ·rw[if_pos y]at h3
      simp only[yU,yN]at h3;omega
     ·by_cases y19:t<19
      ·rw[if_pos (by omega)]at Hj
       simp only[yL,yU,yN]at Hj;omega
      ·omega
    have y:¬(t≠r/\r=5):=by
     rintro⟨_,y⟩;have:r=m\/(m=2/\r=1)\/24<=m:=by omega
     omega
    rw[if_neg y];exact gp (by omega)
  ·rw[he,fm,fx,Hg,Ha]
   show MkPar _ t _ false (if(t:Int)=r/\runs t=true then kept t (PR++[b])else[]) (if(t:Int)=8\/(t:Int)=9 then(if(t:Int)=r then qcw PF b else 2)else 0);by_cases q:t=r
   ·subst q
    rw[if_pos rfl];have Hb:=qs2 k t r2 K PR PF b Hm (fun q=>by
     by_cases z:t=m
     ·exact hb (by rw[<-z];exact q)
     ·exfalso
      have ho:t=qhm m:=by
       unfold qbx at hr;split at hr
       ·exact hr.symm
       ·exact absurd hr.symm z
      have:∀m:Nat,m<=33->qca (qhm m:Nat)=false:=by decide
      rw[ho,this m ghi]at q;cases q)
     (if(t:Int)=t/\runs t=true then kept t (PR++[b])else[]) (if(t:Int)=8\/(t:Int)=9 then(if(t:Int)=t then qcw PF b else 2)else 0)
     (fun z=>by rw[if_pos ⟨rfl,ze7 t r2 Hk z⟩]) (fun z=>by rw[if_pos (by omega),if_pos rfl])
    by_cases z:t=4\/t=5\/t=10
    ·exact q5n Hb (by omega) (by omega)
    ·have y:¬(t≠t/\t=5):=fun y=>y.1 rfl
     rw[fk,if_neg z,if_neg y];exact Hb
   ·have q':¬(t:Int)=r:=by omega
    rw[if_neg q,if_neg (fun z=>q' z.1),if_neg q'];have:=q8r ((St.mk r n e k rd false).led t b).kind t;by_cases z:t=8\/t=9
    ·rw[if_pos z]at this
     rw[if_pos (by omega)];exact this
    ·rw[if_neg z]at this
     rw[if_neg (by omega)];exact this
 ·subst Hf hg
  have Hg:(Sx.led ⟨St.mk r n e k rd false,K⟩ 34 b).ma=Mk.none:=by
   show qms _ _ _ _=_;unfold qms;rw[if_neg (fun z=>z.2 rfl)]
  have hl:(Sx.led ⟨St.mk r n e k rd false,K⟩ 34 b).st=qad (if r=3 then qaw n else e):=by
   show(St.mk r n e k rd false).led 34 b=_;unfold St.led;have z:¬ 34=(St.mk r n e k rd false).mode:=by show ¬ 34=r;omega
   rw[if_neg z];rfl
  obtain⟨w1,w2,w3,w4,w5⟩:=qpn (if r=3 then qaw n else e);refine⟨Hc,fun q q'=>?_,fun _=>?_,?_⟩
  ·rw[hl]at q q'
   exact absurd ⟨q,q'⟩ w5
  ·rw[hl];exact w1
  ·rw[hl,Hg,w2]
   have Hi:((Sp.mk r p.tag p.attr p.inside PR PF).step1 r b).run=[]:=by
    unfold Sp.step1;rw[hT,if_pos rfl];split<;>rfl
   rw[Hi];exact qmr _ _ _ w3 w4
def qru(m:Nat)(c:UInt8):Bool:=if tgt m c=-2 then decide (m=2) || (decide (m=24) || decide (m=31))else true
theorem zav:((List.range 34).all fun m=>(0::named).all fun c=>qru m c)=true:=by decide +kernel
theorem zaw(m:Nat)(hm:m<=33)(b:UInt8)(h:tgt m b=-2):m=2\/m=24\/m=31:=by
 have e:qru m b=qru m (cls b):=by unfold qru;rw[qnc m hm b]
 have:=yX.1 ((yX.1 zav) m (xh.2 (by omega))) _ (ql1 b);rw[<-e]at this;unfold qru at this;rw[if_pos h]at this;simpa only [yU,yN]using this
theorem zfk{kind:Int}{m:Nat}{k:Mk}{run:zU}{far:Int}(h:MkPar kind m k false run far)(hm:m=2\/m=24\/m=31):k=Mk.none:=by
 obtain⟨a,c,d,f⟩:=k;have h1:=h.ref;have hs:qca (m:Int)=false:=by rcases hm with rfl|rfl|rfl<;>decide
 have hl:qb4 kind m=false:=by
  rw[ye];intro q;rcases(qdy q).1 with y|y<;>omega
 have hw:decide (qa0 m=1)=false:=by rcases hm with rfl|rfl|rfl<;>decide
 have h2:=(h.nostr hs).2;have h3:=h.nolink hl;simp only at h1 h2 h3;rw[hw,Bool.false_and]at h1;rw[h1,h2,h3.1,h3.2];rfl
theorem qng(m:Nat)(n e:zU)(k:Int)(rd:Nat)(K:Mk)(p:Sp)(b:UInt8)(hs:(St.mk m n e k rd false).Ok)(hx:ParX ⟨St.mk m n e k rd false,K⟩ p)(PM:Int)(hM:PM=m)(hb:qca (m:Int)=true->b≠92)(Hb:m≠19) :
  ParX (Sx.led ⟨St.mk (qbx m b) n e k rd false,K⟩ (qdg m b) b) ((Sp.mk PM p.tag p.attr p.inside p.run p.far).step m b):=by
 subst hM;have h1:=hs.lo;have h2:=hs.hi;simp only at h1 h2;have ha:=qm8 m h1 h2 b;have Ha:=qqa m h1 h2 b;unfold qv6 at ha;unfold Sp.step;by_cases c2:tgt m b=-2
 ·rw[if_pos c2]at ha |-
  simp only[yL,yN]at ha;obtain⟨⟨a1,a2⟩,a3⟩:=ha;have ne:qa8 m≠m:=by
   intro q;have:=qkf m b;rw[q]at this;exact this c2
  have a19:qa8 m≠19:=by
   unfold qa8
   repeat' split
   all_goals omega
  have:=qu8 m n e k rd K p b hs hx (qa8 m) (qdg m b) [] p.far (fun q=>absurd q ne) (fun _=>⟨zfk hx.ma (zaw m h2 b c2),rfl⟩) hb a19 Ha a1 rfl (.inl a2.symm);rw[a1];exact this
 ·rw[if_neg c2]at ha |-
  by_cases c1:tgt m b=-1
  ·rw[if_pos c1]at ha
   simp only[yL,yN]at ha;rw[ha.1.1.1];exact qu8 m n e k rd K p b hs hx m (qdg m b) p.run p.far (fun _=>⟨rfl,rfl⟩) (fun q=>absurd rfl q) hb Hb Ha ha.1.1.1 rfl (.inr ⟨c1,ha.1.1.2,rfl⟩)
  ·rw[if_neg c1]at ha
   simp only[yL,yN]at ha;rw[ha.1];exact qu8 m n e k rd K p b hs hx m (qdg m b) p.run p.far (fun _=>⟨rfl,rfl⟩) (fun q=>absurd rfl q) hb Hb Ha ha.1 rfl (.inl ha.2.symm)
theorem q7q:∀m:Nat,m<=33->qca (m:Int)=true->m=21\/m=22\/m=23\/m=29\/m=30:=by decide
theorem q9y(m:Nat)(b:UInt8):(qa7 m true b).hex=if qdp m b (21,23,[120],2)=true then 2 else if qdp m b (21,23,[117],4)=true then 4 else if qdp m b (29,30,hexB,5)=true then 5 else 0:=by
 have e:qa7 m true b=match qfd.find? (qdp m b)with
  |some r=>⟨false,r.2.2.2,0,0⟩
  |none=>Mk.none:=rfl
 rw[e];unfold qfd;rw[List.find?_cons,List.find?_cons,List.find?_cons,List.find?_nil];cases qdp m b (21,23,[120],2)<;>cases qdp m b (21,23,[117],4)<;>cases qdp m b (29,30,hexB,5)<;>rfl
theorem q9u(m:Nat)(hm:m<=33)(h:qca (m:Int)=true)(b:UInt8):(if(qa7 m true b).hex=0 then(0:Int)else(qa7 m true b).hex+1)=qcp (qbg m) 1 b:=by
 have hx:among b hexB=among b qa1:=rfl;have e120:among b [120]=(b==120):=by
  show([120]:zU).any _=_;rw[List.any_cons,List.any_nil,Bool.or_false,Bool.beq_comm]
 have e117:among b [117]=(b==117):=by
  show([117]:zU).any _=_;rw[List.any_cons,List.any_nil,Bool.or_false,Bool.beq_comm]
 have e1:qcp (qbg m) 1 b=if(qbg m && among b qa1)=true then 6 else if(!qbg m && b==120)=true then 3 else if(!qbg m && b==117)=true then 5 else 0:=by unfold qcp;rw[if_pos rfl]
 have ha:(b==120)=true->(b==117)=false:=fun q=>by rw[yF]at q;subst q;decide
 rw[q9y,e1];unfold qdp;simp only[hx,e120,e117];rcases q7q m hm h with rfl|rfl|rfl|rfl|rfl
 all_goals
  cases h1:(b==120)<;>cases h2:(b==117)<;>cases h3:among b qa1
  all_goals first|rfl|(exfalso;rw[ha h1]at h2;cases h2)
theorem qyf(m:Nat)(z:Bool)(b:UInt8):(qa7 m z b).ref=false/\(qa7 m z b).pct=0/\(qa7 m z b).far=0:=by
 unfold qa7;split
 ·exact⟨rfl,rfl,rfl⟩
 ·split<;>exact⟨rfl,rfl,rfl⟩
theorem qsi(kind:Int)(m:Nat)(hm:m<=33)(h:qca (m:Int)=true):qb4 kind m=false:=by
 obtain⟨_,n8,n9,_,_⟩:=qf8 m hm h;rw[ye];intro q;rcases(qdy q).1 with y|y
 ·exact n8 y
 ·exact n9 y
theorem qxe(x:Sx)(p:Sp)(b:UInt8)(Ho:SxOk x)(h:ParX x p):ParX (x.behind b) (p.next b):=by
 obtain⟨⟨m,n,e,k,rd,z⟩,K⟩:=x;have Hb:=zb7 _ p b Ho.st h.par;have hs:=Ho.st;simp only at hs;have h1:=hs.lo;have h2:=hs.hi;have Hc:=hs.calm;have hb:=h.par.mode;have hk:=h.kind;have hl:=h.plain;have hf:=h.ma;simp only at h1 h2 Hc hb hk hl hf;have Ha:p.next b=if 19<=m then p.element m b else p.step m b:=by unfold Sp.next;rw[hb,Int.toNat_natCast]
 have hc:=qxs m h2;by_cases hm:19<=m
 ·rw[if_pos hm]at Ha
  have hg:=h.par.tag hm;have Hl:=h.par.read hm;simp only at hg Hl;have hn:k=0:=hl (by omega);have He:(St.mk m n e k rd z).ends b=true↔(p.read=(qcr p.tag).length/\among b qdl=true):=by
   unfold St.ends;rw[yL,yN,Hl,hg];rfl
  unfold Sp.element at Ha;by_cases ce:p.read=(qcr p.tag).length/\among b qdl=true
  ·rw[if_pos ce]at Ha
   have hX:=q3x ⟨⟨m,n,e,k,rd,z⟩,K⟩ b hm (He.2 ce);have hq:qc3 b=1\/qc3 b=12:=by
    unfold qc3;split
    ·exact .inl rfl
    ·exact .inr rfl
   refine⟨Hb,?_,?_,?_⟩
   ·rw[hX];intro q q'
    exfalso
    replace q:6<=qc3 b:=q
    replace q':qc3 b<=9:=q'
    omega
   ·rw[hX];intro _;rfl
   ·rw[hX]
    have Hf:(p.next b).run=[]:=by rw[Ha];split<;>rfl
    rw[Hf];refine qmr _ _ _ ?_ ?_<;>(simp only;omega)
  ·rw[if_neg ce]at Ha
   have Hm:¬(19<=(Sx.mk ⟨m,n,e,k,rd,z⟩ K).st.mode/\(Sx.mk ⟨m,n,e,k,rd,z⟩ K).st.ends b=true):=fun q=>ce (He.1 q.2);by_cases cs:qca (m:Int)=true
   ·have Hg:¬m=19:=(qf8 m h2 cs).2.2.2.2
    have hp:=(qf8 m h2 cs).1;have Hi:=hf.str cs;by_cases hz:z=true
    ·subst hz
     rw[if_pos rfl]at Hi;have w:qca (m:Int)=true/\qdz (qbg m) p.run=1:=⟨cs,Hi.symm⟩;rw[if_pos w]at Ha;have hX:=qy7 ⟨⟨m,n,e,k,rd,true⟩,K⟩ b Hm (by show(qa2.getD m false && (true || _))=true;rw[hc,cs];rfl);obtain⟨r1,r2,r3⟩:=qyf m true b;refine⟨Hb,?_,?_,?_⟩
     ·rw[hX];intro q q';simp only at q';omega
     ·rw[hX];intro _;exact hn
     ·rw[hX,Ha]
      refine⟨?_,(qop m true b).hex.1,fun _=>?_,fun q=>?_,fun q=>?_,fun _=>⟨r2,r3⟩⟩
      ·show (qa7 m true b).ref=_
       rw[r1,yx hp,Bool.false_and]
      ·show (if(!true)=true then(1:Int) else if(qa7 m true b).hex=0 then 0 else(qa7 m true b).hex+1)=qdz (qbg m) (p.run++[b])
       rw[if_neg (by simp),qg4,<-Hi];exact q9u m h2 cs b
      ·replace q:qca (m:Int)=false:=q
       rw[cs]at q;cases q
      ·replace q:qb4 k m=true:=q
       rw[qsi k m h2 cs]at q;cases q
    ·have hj:=ye.2 hz
     subst hj;rw[if_neg (by simp)]at Hi;have hh:=hf.hex;have Hp:¬qdz (qbg m) p.run=1:=by rw[<-Hi];split<;>omega
     have w:¬(qca (m:Int)=true/\qdz (qbg m) p.run=1):=fun q=>Hp q.2;rw[if_neg w,if_neg Hg]at Ha;by_cases cb:b=92
     ·subst cb
      have hX:=qy7 ⟨⟨m,n,e,k,rd,false⟩,K⟩ 92 Hm (by show(qa2.getD m false && (false || _))=true;rw[hc,cs];rfl);have Hf:(p.next 92).run=kept m (p.run++[92]):=by
       rw[Ha];unfold Sp.step Sp.step1;rw[qty m h2 cs,if_neg (by omega),if_neg (by omega)];have Hj:(m:Int)=(m:Int)/\runs (m:Int)=true:=⟨rfl,by unfold runs;rw[cs];simp⟩;show(if _ then _ else _:zU)=_;rw[if_pos Hj]
      refine⟨Hb,?_,?_,?_⟩
      ·rw[hX];intro q q';simp only at q';omega
      ·rw[hX];intro _;exact hn
      ·rw[hX,Hf]
       refine⟨?_,Int.le_refl 0,fun _=>?_,fun q=>?_,fun q=>?_,fun _=>⟨rfl,rfl⟩⟩
       ·show false=_
        rw[yx hp,Bool.false_and]
       ·show (if(!false)=true then(1:Int) else _)=qdz (qbg m) _
        have ht:(!false)=true:=rfl;rw[if_pos ht,q25 _ _ cs,qg4,qoq _ _ Hp]
       ·replace q:qca (m:Int)=false:=q
        rw[cs]at q;cases q
       ·replace q:qb4 k m=true:=q
        rw[qsi k m h2 cs]at q;cases q
     ·have hX:=qrn ⟨⟨m,n,e,k,rd,false⟩,K⟩ b _ _ Hm (by show (qa2.getD m false && (false || b==92))=false;rw[hc,cs,yf.2 cb];rfl) rfl rfl
      rw[hX,Ha];have Hk:(St.mk m n e k rd false).nowRead b=(St.mk m n e k rd false).readEnd b:=by unfold St.nowRead;rw[if_pos hm]
      simp only;rw[Hk];refine qng m n e k _ K ⟨m,p.tag,p.attr,qce (p.inside++[b]),p.run,p.far⟩ b ?_ ⟨?_,hk,hl,hf⟩ _ rfl (fun _=>cb) Hg
      ·exact⟨h1,h2,hs.name,hs.named,hs.elem,hs.bare,fun hh=>by simp only at hh;omega,hs.calm,qkm _ b,hs.wrap,hs.high⟩
      ·refine⟨rfl,h.par.tagName,h.par.attrName,h.par.inTag,h.par.tag,fun _=>?_,h.par.esc⟩
       show qbr (qce (p.inside++[b])) (qcr p.tag) (qcr p.tag).length=_;rw[hg,qqg _ _ _ hs.elem];have hr:qbr p.inside (qcr e) (qcr e).length=rd:=by
        have:p.read=qbr p.inside (qcr e) (qcr e).length:=by unfold Sp.read;rw[hg]
        rw[<-this];exact Hl
       rw[hr];rfl
   ·have cs':=ye.2 cs
    obtain⟨hj,Hq⟩:=hf.nostr cs';subst hj;have w:¬(qca (m:Int)=true/\qdz (qbg m) p.run=1):=fun q=>cs q.1;rw[if_neg w]at Ha;have hX:=qrn ⟨⟨m,n,e,k,rd,false⟩,K⟩ b _ _ Hm (by show(qa2.getD m false && _)=false;rw[hc,cs'];rfl) rfl rfl;by_cases w19:m=19
    ·subst w19
     rw[if_pos rfl]at Ha;have ha:=qm8 19 (by omega) (by omega) b;have ht:tgt 19 b=19:=rfl;unfold qv6 at ha;rw[ht,if_neg (by omega),if_neg (by omega)]at ha;simp only[yL,yN]at ha;have Hn:qbx 19 b=19:=ha.1;have ho:qdg 19 b=19:=by omega
     simp only at hX;rw[Hn,ho]at hX;refine⟨Hb,?_,?_,?_⟩
     ·rw[hX];intro q q';exfalso;replace q':19<=9:=q';omega
     ·rw[hX];intro _;exact hn
     ·rw[hX,Ha]
      exact qs2 k 19 (by omega) K p.run p.far b hf (fun q=>by cases q) _ _ (fun _=>rfl) (fun q=>by omega)
    ·rw[if_neg w19]at Ha
     rw[hX,Ha];have Hk:(St.mk m n e k rd false).nowRead b=(St.mk m n e k rd false).readEnd b:=by unfold St.nowRead;rw[if_pos hm]
     simp only;rw[Hk];refine qng m n e k _ K ⟨m,p.tag,p.attr,qce (p.inside++[b]),p.run,p.far⟩ b ?_ ⟨?_,hk,hl,hf⟩ _ rfl (fun q=>absurd q cs) w19
     ·exact⟨h1,h2,hs.name,hs.named,hs.elem,hs.bare,fun hh=>by simp only at hh;omega,hs.calm,qkm _ b,hs.wrap,hs.high⟩
     ·refine⟨rfl,h.par.tagName,h.par.attrName,h.par.inTag,h.par.tag,fun _=>?_,h.par.esc⟩
      show qbr (qce (p.inside++[b])) (qcr p.tag) (qcr p.tag).length=_;rw[hg,qqg _ _ _ hs.elem];have hr:qbr p.inside (qcr e) (qcr e).length=rd:=by
       have:p.read=qbr p.inside (qcr e) (qcr e).length:=by unfold Sp.read;rw[hg]
       rw[<-this];exact Hl
      rw[hr];rfl
 ·rw[if_neg hm]at Ha
  have he:qa2.getD m false=false:=q9v m (by omega);have hj:z=false:=Hc he;subst hj;have hX:=qrn ⟨⟨m,n,e,k,rd,false⟩,K⟩ b _ _ (fun q=>hm q.1) (by show(qa2.getD m false && _)=false;rw[he];rfl) rfl rfl;rw[hX,Ha];have Hk:(St.mk m n e k rd false).nowRead b=rd:=by unfold St.nowRead;rw[if_neg hm]
  simp only;rw[Hk];exact qng m n e k rd K p b hs h p.mode hb (fun q=>by have:=q28 m h2 q;omega) (by omega)
theorem qsy:ParX Sx.start Sp.start:=
 ⟨qqm,fun q=>(by revert q;decide),fun _=>rfl,qmr 0 1 0 (by decide) (by decide)⟩
theorem qx6(l:zU):∀(x:Sx) (p:Sp),SxOk x->ParX x p->ParX (qax x l) (qei p l):=by
 induction l with
 |nil=>intro x p _ h;exact h
 |cons b l ih=>intro x p ha h;exact ih _ _ (qlk b ha) (qxe x p b ha h)
structure Vw where
 mode:Int
 elem:Int
 attr:Int
 ends:Int
 esc:Int
 pct:Int
 link:Int
 name:zU
 ref:Bool
def qbt(n:zU):Int:=if n=qcz\/[111,110] <+: n then 3 else if n=[104,114,101,102]\/n=[115,114,99]\/n=[97,99,116,105,111,110]then 2 else 1
theorem qns(n:zU):qbt n=qc1 n+1:=by
 unfold qbt;have ha:([111,110]:zU).isPrefixOf n=true↔[111,110] <+: n:=List.isPrefixOf_iff_prefix;by_cases h0:n=[104,114,101,102]
 ·subst h0;rfl
 by_cases h1:n=[115,114,99]
 ·subst h1;rfl
 by_cases h2:n=[97,99,116,105,111,110]
 ·subst h2;rfl
 have f0:qbc n ([104,114,101,102],false,1)=false:=by unfold qbc;rw[Bool.false_and,Bool.or_false,yf];exact fun q=>h0 q.symm
 have f1:qbc n ([115,114,99],false,1)=false:=by unfold qbc;rw[Bool.false_and,Bool.or_false,yf];exact fun q=>h1 q.symm
 have f2:qbc n ([97,99,116,105,111,110],false,1)=false:=by unfold qbc;rw[Bool.false_and,Bool.or_false,yf];exact fun q=>h2 q.symm
 have Ha:¬(n=[104,114,101,102]\/n=[115,114,99]\/n=[97,99,116,105,111,110]):=by
  rintro(q|q|q)
  ·exact h0 q
  ·exact h1 q
  ·exact h2 q
 rw[if_neg Ha];unfold qc1 qdu;rw[List.find?_cons,f0,List.find?_cons,f1,List.find?_cons,f2,List.find?_cons];by_cases h3:n=qcz
 ·have f3:qbc n (qcz,false,2)=true:=by unfold qbc;rw[h3];rfl
  rw[f3,if_pos (.inl h3)];rfl
 ·have f3:qbc n (qcz,false,2)=false:=by unfold qbc;rw[Bool.false_and,Bool.or_false,yf];exact fun q=>h3 q.symm
  rw[f3,List.find?_cons];by_cases h4:[111,110] <+: n
  ·have f4:qbc n ([111,110],true,2)=true:=by unfold qbc;rw[Bool.true_and,ha.2 h4,Bool.or_true]
   rw[f4,if_pos (.inr h4)];rfl
  ·have f4:qbc n ([111,110],true,2)=false:=by
    unfold qbc;rw[Bool.true_and,ye.2 (fun q=>h4 (ha.1 q)),Bool.or_false,yf];rintro rfl;exact h4 (yA _)
   rw[f4,List.find?_nil,if_neg (fun q=>q.elim h3 h4)];rfl
def qne(m:Int):Bool:=m==1 || (m==19 || (m==8 || m==9))
def Sp.view(p:Sp):Vw where
 mode:=p.mode
 elem:=if(3<p.mode/\p.mode<=10)\/19<=p.mode then qcu p.tag else 0
 attr:=if 6<=p.mode/\p.mode<=9 then qbt p.attr else 0
 ends:=if 19<=p.mode then p.read else 0
 esc:=if qca p.mode=true then qdz (qbg p.mode) p.run else 0
 pct:=if(p.mode=8\/p.mode=9)/\qbt p.attr=2 then qhq p.run else 0
 link:=if(p.mode=8\/p.mode=9)/\qbt p.attr=2 then p.far else 0
 name:=if p.mode=3 then p.tag else if p.mode=5 then p.attr else[]
 ref:=if qne p.mode=true then qie p.run else false
def Sx.view(x:Sx):Vw where
 mode:=x.st.mode
 elem:=qcu x.st.elem
 attr:=if 6<=x.st.mode/\x.st.mode<=9 then x.st.kind+1 else 0
 ends:=x.st.read
 esc:=if x.st.esc=true then 1 else if x.ma.hex=0 then 0 else x.ma.hex+1
 pct:=x.ma.pct
 link:=if qb4 x.st.kind x.st.mode=true then qj4 x.ma.far else 0
 name:=x.st.name
 ref:=x.ma.ref
theorem qo3(n:zU):qcu (qaw n)=qcu n:=by
 unfold qaw;split
 ·rfl
 ·next h=>
  simp only[not_or]at h;unfold qcu;rw[if_neg h.1,if_neg h.2.1,if_neg h.2.2.1,if_neg h.2.2.2];rfl
theorem q4a:∀m:Nat,m<=33->qne (m:Int)=decide (qa0 m=1):=by decide
theorem qmb(x:Sx)(p:Sp)(hb:SxOk x)(h:ParX x p):p.view=x.view:=by
 have hm:=h.par.mode;have hs:=hb.st;have Hb:=hs.hi;have ha:=hs.bare;unfold Sp.view Sx.view;rw[hm];have c1:(if(3<(x.st.mode:Int)/\(x.st.mode:Int)<=10)\/19<=(x.st.mode:Int)then(qcu p.tag:Int)else 0)=qcu x.st.elem:=by
  by_cases q:4<=x.st.mode/\x.st.mode<=10
  ·rw[if_pos (by omega),<-h.par.inTag q.1 q.2,qo3]
  ·by_cases q':19<=x.st.mode
   ·rw[if_pos (by omega),h.par.tag q']
   ·rw[if_neg (by omega),(ha (by omega)).1];rfl
 have c2:(if 6<=(x.st.mode:Int)/\(x.st.mode:Int)<=9 then qbt p.attr else 0)=if 6<=x.st.mode/\x.st.mode<=9 then x.st.kind+1 else 0:=by
  by_cases q:6<=x.st.mode/\x.st.mode<=9
  ·rw[if_pos (by omega),if_pos q,h.kind q.1 q.2,qns]
  ·rw[if_neg (by omega),if_neg q]
 have c3:(if 19<=(x.st.mode:Int)then(p.read:Int)else 0)=x.st.read:=by
  by_cases q:19<=x.st.mode
  ·rw[if_pos (by omega),h.par.read q]
  ·rw[if_neg (by omega),hs.low (by omega)];rfl
 have c4:(if qca (x.st.mode:Int)=true then qdz (qbg x.st.mode) p.run else 0)=if x.st.esc=true then 1 else if x.ma.hex=0 then 0 else x.ma.hex+1:=by
  by_cases q:qca (x.st.mode:Int)=true
  ·rw[if_pos q];exact(h.ma.str q).symm
  ·obtain⟨q1,q2⟩:=h.ma.nostr (ye.2 q)
   rw[if_neg q,q1,q2];rfl
 have Ha:(((x.st.mode:Int)=8\/(x.st.mode:Int)=9)/\qbt p.attr=2)↔qb4 x.st.kind x.st.mode=true:=by
  unfold qb4;rw[yL,yU,yF,yF,yF];constructor
  ·rintro⟨a,c⟩
   rw[qns,<-h.kind (by omega) (by omega)]at c;exact⟨by omega,by omega⟩
  ·rintro⟨a,c⟩
   rw[qns,<-h.kind (by omega) (by omega)];exact⟨by omega,by omega⟩
 have c5:(if((x.st.mode:Int)=8\/(x.st.mode:Int)=9)/\qbt p.attr=2 then qhq p.run else 0)=x.ma.pct:=by
  by_cases q:qb4 x.st.kind x.st.mode=true
  ·rw[if_pos (Ha.2 q)];exact(h.ma.link q).1.symm
  ·rw[if_neg (fun z=>q (Ha.1 z))];exact(h.ma.nolink (ye.2 q)).1.symm
 have c6:(if((x.st.mode:Int)=8\/(x.st.mode:Int)=9)/\qbt p.attr=2 then p.far else 0)=if qb4 x.st.kind x.st.mode=true then qj4 x.ma.far else 0:=by
  by_cases q:qb4 x.st.kind x.st.mode=true
  ·rw[if_pos (Ha.2 q),if_pos q];exact(h.ma.link q).2.1.symm
  ·rw[if_neg (fun z=>q (Ha.1 z)),if_neg q]
 have c7:(if(x.st.mode:Int)=3 then p.tag else if(x.st.mode:Int)=5 then p.attr else[])=x.st.name:=by
  by_cases q:x.st.mode=3
  ·rw[if_pos (by omega),h.par.tagName q]
  ·by_cases q':x.st.mode=5
   ·rw[if_neg (by omega),if_pos (by omega),h.par.attrName q']
   ·rw[if_neg (by omega),if_neg (by omega),hs.named q q']
 have c8:(if qne (x.st.mode:Int)=true then qie p.run else false)=x.ma.ref:=by
  rw[q4a _ Hb,h.ma.ref];cases decide (qa0 x.st.mode=1)<;>rfl
 rw[c1,c2,c3,c4,c5,c6,c7,c8]
def qt3(x:Sx):Prop:=x.st.esc=true->x.ma.hex=0
theorem qvo(x:Sx)(b:UInt8)(ha:SxOk x):qt3 (x.behind b):=by
 have hs:=ha.st;by_cases he:19<=x.st.mode/\x.st.ends b=true
 ·rw[q3x x b he.1 he.2];intro q;cases q
 ·cases hq:(qa2.getD x.st.mode false && (x.st.esc || b==92))
  ·rw[qrn x b _ _ he hq rfl rfl]
   have hz:x.st.esc=false:=by
    by_cases q:qa2.getD x.st.mode false=true
    ·rw[q,Bool.true_and,Bool.or_eq_false_iff]at hq
     exact hq.1
    ·exact hs.calm (ye.2 q)
   intro q;exfalso
   replace q:((St.mk (qbx x.st.mode b) x.st.name x.st.elem x.st.kind (x.st.nowRead b) x.st.esc).led (qdg x.st.mode b) b).esc=true:=q
   by_cases c:qdg x.st.mode b=34
   ·rw[c]at q
    unfold St.led at q;split at q
    ·rw[show ∀s:St,s.led1 34 b=qad s.elem from fun _=>rfl,(qpn _).2.1]at q;cases q
    ·rw[show ∀s:St,s.led1 34 b=qad s.elem from fun _=>rfl,(qpn _).2.1]at q;cases q
   ·rw[(zcf _ _ b c).2.2.2.1]at q
    simp only at q;rw[hz]at q;cases q
  ·rw[qy7 x b he hq]
   intro q
   replace q:(!x.st.esc)=true:=q
   show(qa7 x.st.mode x.st.esc b).hex=0
   have:x.st.esc=false:=by cases h:x.st.esc with
    |false=>rfl
    |true=>rw[h]at q;cases q
   rw[this];rfl
theorem qnz{n n':zU}(h:qje n)(h':qje n')(q:qcu n=qcu n'):n=n':=by
 rcases h with rfl|rfl|rfl|rfl|rfl<;>rcases h' with rfl|rfl|rfl|rfl|rfl<;>first|rfl|(exfalso;revert q;decide)
theorem za4(x y:Sx)(p q:Sp)(hx:SxOk x)(hy:SxOk y)(ex:qt3 x)(ey:qt3 y)(px:ParX x p)(py:ParX y q)(h:x.view=y.view):x=y:=by
 have hm:x.st.mode=y.st.mode:=by
  have:=yE Vw.mode h;show _=_;have z:(x.st.mode:Int)=(y.st.mode:Int):=this;omega
 have he:x.st.elem=y.st.elem:=by
  have z:(qcu x.st.elem:Int)=(qcu y.st.elem:Int):=yE Vw.elem h;exact qnz hx.st.elem hy.st.elem (by omega)
 have hn:x.st.name=y.st.name:=yE Vw.name h;have hr:x.st.read=y.st.read:=by
  have z:(x.st.read:Int)=(y.st.read:Int):=yE Vw.ends h;omega
 have hk:x.st.kind=y.st.kind:=by
  have z:(if 6<=x.st.mode/\x.st.mode<=9 then x.st.kind+1 else 0)=(if 6<=y.st.mode/\y.st.mode<=9 then y.st.kind+1 else 0):=yE Vw.attr h;by_cases c:6<=x.st.mode/\x.st.mode<=9
  ·rw[if_pos c,if_pos (by rw[<-hm];exact c)]at z;omega
  ·rw[px.plain c,py.plain (by rw[<-hm];exact c)]
 have ha:x.ma.ref=y.ma.ref:=yE Vw.ref h;have Ha:x.ma.pct=y.ma.pct:=yE Vw.pct h;have hb:x.ma.far=y.ma.far:=by
  have z:(if qb4 x.st.kind x.st.mode=true then qj4 x.ma.far else 0)=(if qb4 y.st.kind y.st.mode=true then qj4 y.ma.far else 0):=yE Vw.link h;rw[<-hk,<-hm]at z;by_cases c:qb4 x.st.kind x.st.mode=true
  ·rw[if_pos c,if_pos c]at z
   obtain⟨_,_,a1,a2⟩:=px.ma.link c;obtain⟨_,_,b1,b2⟩:=py.ma.link (by rw[<-hk,<-hm];exact c);unfold qj4 at z
   repeat' split at z
   all_goals omega
  ·rw[(px.ma.nolink (ye.2 c)).2,(py.ma.nolink (by rw[<-hk,<-hm];exact ye.2 c)).2]
 have Hb:x.st.esc=y.st.esc/\x.ma.hex=y.ma.hex:=by
  have z:(if x.st.esc=true then(1:Int)else if x.ma.hex=0 then 0 else x.ma.hex+1)=(if y.st.esc=true then(1:Int)else if y.ma.hex=0 then 0 else y.ma.hex+1):=yE Vw.esc h;have x0:=px.ma.hex;have y0:=py.ma.hex;cases a:x.st.esc<;>cases c:y.st.esc
  ·rw[a,c]at z
   replace z:(if x.ma.hex=0 then(0:Int)else x.ma.hex+1)=(if y.ma.hex=0 then(0:Int)else y.ma.hex+1):=z
   refine⟨rfl,?_⟩;by_cases c1:x.ma.hex=0<;>by_cases c2:y.ma.hex=0
   ·omega
   ·rw[if_pos c1,if_neg c2]at z;omega
   ·rw[if_neg c1,if_pos c2]at z;omega
   ·rw[if_neg c1,if_neg c2]at z;omega
  ·rw[a,c]at z
   replace z:(if x.ma.hex=0 then(0:Int)else x.ma.hex+1)=1:=z
   exfalso;by_cases c1:x.ma.hex=0
   ·rw[if_pos c1]at z;omega
   ·rw[if_neg c1]at z;omega
  ·rw[a,c]at z
   replace z:(1:Int)=(if y.ma.hex=0 then(0:Int)else y.ma.hex+1):=z
   exfalso;by_cases c1:y.ma.hex=0
   ·rw[if_pos c1]at z;omega
   ·rw[if_neg c1]at z;omega
  ·exact⟨rfl,by rw[ex a,ey c]⟩
 obtain⟨⟨m,n,e,k,r,z⟩,⟨rf,Hc,pc,fr⟩⟩:=x;obtain⟨⟨m',n',e',k',r',z'⟩,⟨rf',hc,pc',fr'⟩⟩:=y;simp only at hm he hn hr hk ha Ha hb Hb;obtain⟨h1,h2⟩:=Hb;subst hm he hn hr hk ha Ha hb h1 h2;rfl
def Sx.halfway(x:Sx):Bool:=x.ma.ref || (x.st.esc || (decide (0<x.ma.hex) || (decide (0<x.ma.pct) || decide (0<x.st.read))))
def Sx.hole(x:Sx):Int×Int:=
 if qa0 x.st.mode=0 then(0,10)else if x.st.kind=2 then(0,11)else if x.halfway=true then(0,12)
 else if qb4 x.st.kind x.st.mode=true/\x.ma.far=0 then(2,0)else if qb4 x.st.kind x.st.mode=true then(3,0)else(qa0 x.st.mode,0)
def Sx.behindHole(x:Sx):Sx:=if qb4 x.st.kind x.st.mode=true/\x.ma.far<2 then⟨x.st,⟨x.ma.ref,x.ma.hex,x.ma.pct,2⟩⟩else x
def Vw.as(v:Vw):Int:=
 if v.mode=1\/v.mode=19 then 1 else if v.mode=8\/v.mode=9 then(if v.link=2 then 2 else if v.attr=2 then 3 else 1)else if v.mode=21\/v.mode=22 then 4 else if v.mode=29\/v.mode=30 then 5 else 0
def Vw.hole(v:Vw):Int×Int:=if v.as=0 then(0,10)else if v.attr=3 then(0,11)else if(v.ref || (decide (0<v.esc) || (decide (0<v.pct) || decide (0<v.ends))))=true then(0,12)else(v.as,0)
def Sp.behindHole(p:Sp):Sp:=if p.view.link=2\/p.view.link=3 then⟨p.mode,p.tag,p.attr,p.inside,p.run,4⟩else p
theorem q80(x:Sx)(p:Sp)(h:ParX x p):(x.view.link=2↔qb4 x.st.kind x.st.mode=true/\x.ma.far=0)/\(x.view.link=3↔qb4 x.st.kind x.st.mode=true/\x.ma.far=1)/\(x.view.link=4↔qb4 x.st.kind x.st.mode=true/\x.ma.far=2):=by
 have e:x.view.link=if qb4 x.st.kind x.st.mode=true then qj4 x.ma.far else 0:=rfl;rw[e];by_cases c:qb4 x.st.kind x.st.mode=true
 ·obtain⟨_,_,a,b⟩:=h.ma.link c
  rw[if_pos c];unfold qj4;have:x.ma.far=0\/x.ma.far=1\/x.ma.far=2\/x.ma.far=3:=by omega
  rcases this with q|q|q|q<;>rw[q]<;>simp[c]
 ·rw[if_neg c]
  refine⟨⟨fun q=>by omega,fun q=>absurd q.1 c⟩,⟨fun q=>by omega,fun q=>absurd q.1 c⟩,⟨fun q=>by omega,fun q=>absurd q.1 c⟩⟩
theorem qhl(x:Sx)(p:Sp)(ha:SxOk x)(h:ParX x p):ParX x.behindHole p.behindHole:=by
 obtain⟨l2,l3,_⟩:=q80 x p h;unfold Sx.behindHole Sp.behindHole;rw[qmb x p ha h];by_cases c:qb4 x.st.kind x.st.mode=true
 ·obtain⟨a1,a2,a3,a4⟩:=h.ma.link c
  by_cases f:x.ma.far<2
  ·have hv:x.view.link=2\/x.view.link=3:=by
    by_cases z:x.ma.far=0
    ·exact .inl (l2.2 ⟨c,z⟩)
    ·exact .inr (l3.2 ⟨c,by omega⟩)
   rw[if_pos ⟨c,f⟩,if_pos hv];refine⟨⟨h.par.mode,h.par.tagName,h.par.attrName,h.par.inTag,h.par.tag,h.par.read,h.par.esc⟩,h.kind,h.plain,?_⟩;exact⟨h.ma.ref,h.ma.hex,h.ma.str,h.ma.nostr,fun _=>⟨a1,rfl,(by show(0:Int)<=2;omega),(by show(2:Int)<=3;omega)⟩,fun q=>by rw[c]at q;cases q⟩
  ·have hv:¬(x.view.link=2\/x.view.link=3):=by
    rintro(q|q)
    ·have:=(l2.1 q).2;omega
    ·have:=(l3.1 q).2;omega
   rw[if_neg (fun q=>f q.2),if_neg hv];exact h
 ·have hv:¬(x.view.link=2\/x.view.link=3):=by
   rintro(q|q)
   ·exact c (l2.1 q).1
   ·exact c (l3.1 q).1
  rw[if_neg (fun q=>c q.1),if_neg hv];exact h
theorem qi9(x:Sx)(h:SxOk x):SxOk x.behindHole:=by
 unfold Sx.behindHole;split
 ·exact⟨h.st,⟨h.ma.hex,h.ma.pct⟩⟩
 ·exact h
theorem qr8(x:Sx)(h:qt3 x):qt3 x.behindHole:=by
 unfold Sx.behindHole;split
 ·exact h
 ·exact h
deriving instance DecidableEq for St,Mk,Sx
structure Src where
 name:zU
 parts:List Pt
abbrev En:=Nat×Sx
structure Ft where
 code:Nat
 kind:Int
 place:zU
 pos:Nat
def Ft.none:Ft:=⟨0,0,[],0⟩
structure Sr where
 ends:List (En×Sx)
 nums:List (En×Nat)
 vis:List (Nat×List Int)
 fault:Ft
def Sx.none:Sx:=⟨⟨0,[],[],0,0,false⟩,Mk.none⟩
def Sx.isNone(x:Sx):Bool:=x.st.mode==0
def qa9{α:Type}:List (En×α)->En->Option α
 |[],_=>Option.none
 |(k,v)::l,e=>if k=e then some v else qa9 l e
def qbi{α:Type}:List (En×α)->En->α->List (En×α)
 |[],e,v=>[(e,v)]
 |(k,u)::l,e,v=>if k=e then(e,v)::l else(k,u)::qbi l e v
def qh4(n:zU):Nat->List Src->Nat
 |_,[]=>0
 |i,s::l=>if s.name=n then i else qh4 n (i+1) l
def qaj(S:List Src)(n:zU):Nat:=qh4 n 1 (S.drop 1)
def qah(S:List Src)(i:Nat):List Pt:=match S[i]? with
 |some s=>s.parts
 |Option.none=>[]
def qom(S:List Src)(i:Nat):zU:=match S[i]? with
 |some s=>s.name
 |Option.none=>[]
def qd7(beh:Sr->zU->Sx->Sr×Sx)(P:List Pt):Nat->Nat->Sr->Sx->Sr×Sx
 |0,_,s,x=>(s,x)
 |n+1,a,s,x=>
   if x.isNone=true then(s,x)else
   match P[a]? with
   |Option.none=>(s,x)
   |some p=>
     if p.kind=1 then qd7 beh P n (a+1) s (qax x p.text)
     else if p.kind=2 then qd7 beh P n (a+1) s x.behindHole
     else if p.kind=3\/p.kind=4 then qd7 beh P n (p.mate+1) s x
     else if p.kind=6 then qd7 beh P n (a+1) (beh s p.text x).1 (beh s p.text x).2
     else qd7 beh P n (a+1) s x
def qtd:Ft:=⟨3,0,[],0⟩
def behV(S:List Src):Nat->Sr->zU->Sx->Sr×Sx
 |0,s,_,x=>(s,x)
 |k+1,s,n,x=>
   if qaj S n=0 then(s,x)else
   match qa9 s.ends (qaj S n,x)with
   |some e=>(s,e)
   |Option.none=>
     if s.ends.length=256 then({ s with fault:=qtd },Sx.none)else
     let P:=qah S (qaj S n)
     let r:=qd7 (behV S k) P (P.length+1) 0 { s with ends:=qbi s.ends (qaj S n,x) Sx.none } x
     ({ r.1 with ends:=qbi r.1.ends (qaj S n,x) r.2 },r.2)
def qcy:Sx->zU->Option Nat
 |_,[]=>Option.none
 |x,b::l=>if qcd x.st.kind x.st.mode x.ma.far b=true then some 0 else(qcy (x.behind b) l).map (·+ 1)
def Sr.wrong(s:Sr)(S:List Src)(i:Nat)(kind:Int)(pos:Nat):Sr:={ s with fault:=⟨3,kind,qom S i,pos⟩ }
def Sr.mark(s:Sr)(v a:Nat)(m:Int):Sr:={ s with vis:=s.vis.modify v fun x=>(x.1,x.2.set a m) }
def qhc(s:Sr)(e:En):Nat:=(qa9 s.nums e).getD 0
def goV(nm:Sr->zU->Sx->Sr×Nat×Sx)(S:List Src)(i v:Nat)(P:List Pt):Nat->Nat->Sr->Sx->List (Sx×Nat)->Sr
 |0,_,s,_,_=>s
 |n+1,a,s,x,B=>
   match P[a]? with
   |Option.none=>s
   |some p=>
     if p.kind=1 then
      (match qcy x p.text with
       |some j=>s.wrong S i 14 (p.pos+j)
       | Option.none=>goV nm S i v P n (a+1) s (qax x p.text) B)
     else if p.kind=2 then
      (if x.hole.2≠0 then s.wrong S i x.hole.2 p.pos else goV nm S i v P n (a+1) (s.mark v a x.hole.1) x.behindHole B)
     else if p.kind=3\/p.kind=4 then goV nm S i v P n (a+1) s x (B++[(x,p.mate)])
     else if p.kind=5 then
      (match B.getLast? with
       |Option.none=>s
       | some b=>if x≠b.1 then s.wrong S i 13 (qk2 P p.mate) else goV nm S i v P n (a+1) s x B.dropLast)
     else if p.kind=6 then
      let r:=nm s p.text x
      let s1:=r.1.mark v a r.2.1
      if s1.fault.code≠0\/(r.2.2.isNone=true/\B=[])then s1
      else if r.2.2.isNone=false then goV nm S i v P n (a+1) s1 r.2.2 B
      else(match B.getLast? with
       |Option.none=>s1
       | some b=>goV nm S i v P n b.2 s1 b.1 B)
     else goV nm S i v P n (a+1) s x B
def qev(S:List Src):Nat->Sr->En->Sr
 |0,s,_=>s
 |k+1,s,e=>
   let P:=qah S e.1
   let nm:=fun(s:Sr) (n:zU) (x:Sx)=>
    let r:=behV S 257 s n x
    if qaj S n=0\/r.1.fault.code≠0 then(r.1,0,r.2)
    else if qhc r.1 (qaj S n,x)=0 then
     (qev S k r.1 (qaj S n,x),qhc (qev S k r.1 (qaj S n,x)) (qaj S n,x),r.2)
    else(r.1,qhc r.1 (qaj S n,x),r.2)
   goV nm S e.1 s.vis.length P (P.length+1) 0 { s with nums:=qbi s.nums e s.vis.length,vis:=s.vis++[(e.1,List.replicate P.length 0)] } e.2 []
def qew(S:List Src)(len:Nat):List (Nat×List Int)×Ft:=
 let s:=qev S 258 ⟨[],[],[],Ft.none⟩ (0,Sx.start)
 if s.fault.code≠0 then([],s.fault)else
 let P:=qah S 0
 let r:=qd7 (behV S 257) P (P.length+1) 0 s Sx.start
 if r.2.isNone=false/\r.2≠Sx.start then([],⟨3,15,qom S 0,len⟩)
 else if r.1.fault.code≠0 then([],r.1.fault)else(r.1.vis,Ft.none)
def qhn:List zU->Bool
 |[]=>true
 |n::l=>qa4 n && (!l.contains n && qhn l)
def qa5:List (zU×zU)->Ft×List Src
 |[]=>(Ft.none,[])
 | (n,t)::l=>if(qam t).1.1≠0 then(⟨2,(qam t).1.1,n,(qam t).1.2⟩,[])
   else if(qa5 l).1.code≠0 then((qa5 l).1,[])else(Ft.none,⟨n,(qam t).2⟩::(qa5 l).2)
def qc5(t:zU)(L:List (zU×zU)):(List (Nat×List Int)×List Src)×Ft:=
 if 6<L.length\/qhn (L.map (·.1))=false then(([],[]),⟨1,0,[],0⟩)else
 if(qa5 (([],t)::L)).1.code≠0 then(([],[]),(qa5 (([],t)::L)).1)else
 if(qew (qa5 (([],t)::L)).2 t.length).2.code≠0 then(([],[]),(qew (qa5 (([],t)::L)).2 t.length).2)
 else(((qew (qa5 (([],t)::L)).2 t.length).1,(qa5 (([],t)::L)).2),Ft.none)
variable{o:Nat}{l:List Pt}{x:Sx}
def qfm(x:Sx)(B:List Sx)(p:Pt):Option (Sx×List Sx):=
 if p.kind=1 then(match qcy x p.text with
  |some _=>Option.none
  | Option.none=>some (qax x p.text,B))
 else if p.kind=2 then(if x.hole.2=0 then some (x.behindHole,B)else Option.none)
 else if p.kind=3\/p.kind=4 then some (x,B++[x])
 else if p.kind=5 then(match B.getLast? with
  |Option.none=>Option.none
  | some b=>if x=b then some (x,B.dropLast) else Option.none)
 else some (x,B)
def qeu:List Pt->Sx->List Sx->Option (Sx×List Sx)
 |[],x,B=>some (x,B)
 |p::l,x,B=>(qfm x B p).bind fun y=>qeu l y.1 y.2
theorem qk7(l m:List Pt):∀(x:Sx) (B:List Sx),qeu (l++m) x B=(qeu l x B).bind fun y=>qeu m y.1 y.2:=by
 induction l with
 |nil=>intro x B;rfl
 |cons p l ih=>
   intro x B;show(qfm x B p).bind _=((qfm x B p).bind _).bind _;cases qfm x B p with
   |none=>rfl
   |some y=>exact ih y.1 y.2
def deep:List Pt->Nat->Bool
 |[],_=>true
 |p::l,d=>if p.kind=3\/p.kind=4 then deep l (d+1)else if p.kind=5 then decide (d≠0) && deep l (d - 1)else deep l d
theorem q96(h:Wf o l):∀(m:List Pt) (d:Nat),deep m d=true->deep (l++m) d=true:=by
 induction h with
 |nil o=>intro m d h;exact h
 |leaf o p l hk _ ih=>
   intro m d h;show deep (p::(l++m)) d=true;unfold deep;rw[if_neg (by omega),if_neg (by omega)];exact ih m d h
 |sec o p q b l hp hq h1 h2 hb _ ihb ihl=>
   intro m d h;have e:p::b++q::l++m=p::(b++(q::(l++m))):=by simp
   rw[e];unfold deep;rw[if_pos hp];refine ihb _ _ ?_;unfold deep;rw[if_neg (by omega),if_pos hq];simp only[ne_eq,Nat.add_eq_zero_iff,Nat.succ_ne_self,and_false,not_false_eq_true,decide_true,Bool.true_and,Nat.add_sub_cancel];exact ihl m d h
theorem qo5(h:Wf o l):∀p∈l,1<=p.kind/\p.kind<=6:=by
 induction h with
 |nil o=>intro p hp;cases hp
 |leaf o p l hk _ ih=>
   intro q hq;rcases xu.1 hq with rfl|hq
   ·omega
   ·exact ih q hq
 |sec o p q b l hp hq h1 h2 hb _ ihb ihl=>
   intro r hr;simp only[xC,xu,yn]at hr;rcases hr with rfl|hr|rfl|hr
   ·omega
   ·exact ihb r hr
   ·omega
   ·exact ihl r hr
theorem q0j{l:zU}{j:Nat}(h:qcy x l=some j):j<l.length:=by
 induction l generalizing x j with
 |nil=>cases h
 |cons b l ih=>
   unfold qcy at h;split at h
   ·injection h with h;subst h;simp
   ·obtain⟨k,h1,rfl⟩:=yy.1 h
    have:=ih h1;simp;omega
structure Marks(s s':Sr):Prop where
 ends:s'.ends=s.ends
 nums:s'.nums=s.nums
 vis:s'.vis.length=s.vis.length
theorem Marks.refl(s:Sr):Marks s s:=⟨rfl,rfl,rfl⟩
theorem Marks.mark{s s':Sr}(h:Marks s s')(v a:Nat)(m:Int):Marks s (s'.mark v a m):=⟨h.ends,h.nums,by unfold Sr.mark;simp[h.vis]⟩
theorem q5o(s:Sr)(v a:Nat)(m:Int):(s.mark v a m).fault=s.fault:=rfl
theorem qmp(h:SxOk x):x.isNone=false:=by
 have:=h.st.lo;unfold Sx.isNone;rw[yf];omega
theorem qsh{B:List Sx}{p:Pt}{y:Sx×List Sx}(h:SxOk x)(hs:qfm x B p=some y):SxOk y.1:=by
 unfold qfm at hs;split at hs
 ·split at hs
  ·cases hs
  ·injection hs with hs;subst hs;exact qwn _ _ h
 ·split at hs
  ·split at hs
   ·injection hs with hs;subst hs;exact qi9 _ h
   ·cases hs
  ·split at hs
   ·injection hs with hs;subst hs;exact h
   ·split at hs
    ·split at hs
     ·cases hs
     ·split at hs
      ·injection hs with hs;subst hs;exact h
      ·cases hs
    ·injection hs with hs;subst hs;exact h
theorem qym{α:Type}{P:List α}{a:Nat}{p:α}(h:P[a]?=some p):P.drop a=p::P.drop (a+1):=by
 obtain⟨h1,h2⟩:=yb.1 h;rw[yo h1,h2]
theorem q46(P:List Pt)(m:Nat)(hP:P≠[]):∃p∈P,qk2 P m=p.pos\/qk2 P m=0:=by
 unfold qk2;cases h:P[m]? with
 |none=>
   cases P with
   |nil=>exact absurd rfl hP
   |cons p l=>exact⟨p,by simp,.inr rfl⟩
 |some p=>exact⟨p,yl h,.inl rfl⟩
def zdv(S:List Src)(i:Nat)(P:List Pt)(s0:Sr)(r:Option (Sx×List Sx))(s:Sr):Prop:=
 match r with
 |some _=>s.fault=s0.fault/\Marks s0 s
 |Option.none=>s.fault.code=3/\s.fault.place=qom S i/\(s.fault.pos=0\/∃p∈P,s.fault.pos=p.pos\/(p.kind=1/\s.fault.pos<p.pos+p.text.length))
theorem zcw(nm:Sr->zU->Sx->Sr×Nat×Sx)(S:List Src)(i v:Nat)(P:List Pt)(hk:∀p∈P,1<=p.kind/\p.kind<=6)(Ha:∀p∈P,p.kind=6->∀s x,nm s p.text x=(s,0,x))(s0:Sr)(h0:s0.fault.code=0) :
  ∀(n a:Nat) (s:Sr) (x:Sx) (B:List (Sx×Nat)),P.length - a<n->deep (P.drop a) B.length=true->s.fault=s0.fault->Marks s0 s->SxOk x ->
  zdv S i P s0 (qeu (P.drop a) x (B.map (·.1))) (goV nm S i v P n a s x B):=by
 intro n
 induction n with
 |zero=>intro a s x B h;omega
 |succ n ih=>
   intro a s x B hn hd hf hm hx;unfold goV;cases hp:P[a]? with
   |none=>
     have:P.length<=a:=by simpa using hp
     rw[List.drop_eq_nil_of_le this];exact⟨hf,hm⟩
   |some p=>
     have hc:a<P.length:=(yb.1 hp).1;have ha:p∈P:=yl hp;have Hc:=hk p ha;rw[qym hp]at hd |-;show zdv S i P s0 ((qfm x (B.map (·.1)) p).bind fun y=>qeu (P.drop (a+1)) y.1 y.2) _;unfold deep at hd;unfold qfm;simp only;by_cases k1:p.kind=1
     ·rw[if_pos k1,if_pos k1]
      rw[if_neg (by omega),if_neg (by omega)]at hd;cases hs:qcy x p.text with
      |some j=>
        exact⟨rfl,rfl,.inr ⟨p,ha,.inr ⟨k1,by have:=q0j hs;show p.pos+j<_;omega⟩⟩⟩
      |none=>exact ih (a+1) s _ B (by omega) hd hf hm (qwn _ _ hx)
     rw[if_neg k1,if_neg k1];by_cases k2:p.kind=2
     ·rw[if_pos k2,if_pos k2]
      rw[if_neg (by omega),if_neg (by omega)]at hd;by_cases hh:x.hole.2=0
      ·rw[if_pos hh,if_neg (fun q=>q hh)]
       exact ih (a+1) _ _ B (by omega) hd hf (hm.mark _ _ _) (qi9 _ hx)
      ·rw[if_neg hh,if_pos hh]
       exact⟨rfl,rfl,.inr ⟨p,ha,.inl rfl⟩⟩
     rw[if_neg k2,if_neg k2];by_cases k3:p.kind=3\/p.kind=4
     ·rw[if_pos k3,if_pos k3]
      rw[if_pos k3]at hd;have:=ih (a+1) s x (B++[(x,p.mate)]) (by omega) (by simpa using hd) hf hm hx;rw[yG]at this;exact this
     rw[if_neg k3,if_neg k3];rw[if_neg k3]at hd;by_cases k5:p.kind=5
     ·rw[if_pos k5,if_pos k5]
      rw[if_pos k5]at hd;simp only[ne_eq,yL,yN]at hd;cases hB:B.getLast? with
      |none=>
        rw[List.getLast?_eq_none_iff]at hB;subst hB;exact absurd rfl hd.1
      |some b=>
        have Hb:(B.map (·.1)).getLast?=some b.1:=by rw[List.getLast?_map,hB];rfl
        simp only[Hb];by_cases hb:x=b.1
        ·rw[if_pos hb,if_neg (fun q=>q hb)]
         have:=ih (a+1) s x B.dropLast (by omega) (by simpa using hd.2) hf hm hx;rw[List.map_dropLast]at this;exact this
        ·rw[if_neg hb,if_pos hb]
         refine⟨rfl,rfl,?_⟩;obtain⟨q,hq,h|h⟩:=q46 P p.mate (fun e=>by rw[e]at ha;cases ha)
         ·exact .inr ⟨q,hq,.inl h⟩
         ·exact .inl h
     rw[if_neg k5,if_neg k5];have k6:p.kind=6:=by omega
     rw[if_pos k6,Ha p ha k6];rw[if_neg k5]at hd;simp only[qmp hx];rw[if_neg (by rw[q5o,hf,h0];simp),if_pos trivial];exact ih (a+1) _ x B (by omega) hd hf (hm.mark _ _ _) hx
variable{o:Nat}{l:List Pt}
theorem q9m(h:Wf o l):∀(x:Sx) (B:List Sx) (y:Sx×List Sx),qeu l x B=some y->y.2=B:=by
 induction h with
 |nil o=>intro x B y h;injection h with h;subst h;rfl
 |leaf o p l hk _ ih=>
   intro x B y h;obtain⟨z,h1,h2⟩:=xz.1 h;rw[ih _ _ _ h2];unfold qfm at h1;split at h1
   ·split at h1
    ·cases h1
    ·injection h1 with h1;subst h1;rfl
   ·split at h1
    ·split at h1
     ·injection h1 with h1;subst h1;rfl
     ·cases h1
    ·rw[if_neg (by omega),if_neg (by omega)]at h1
     injection h1 with h1;subst h1;rfl
 |sec o p q b l hp hq h1 h2 hb _ ihb ihl=>
   intro x B y h;have e:p::b++q::l=p::(b++(q::l)):=by simp
   rw[e]at h;obtain⟨z,g1,g2⟩:=xz.1 h;unfold qfm at g1;rw[if_neg (by omega),if_neg (by omega),if_pos hp]at g1;injection g1 with g1;subst g1;rw[qk7]at g2;obtain⟨u,g3,g4⟩:=xz.1 g2;have hu:=ihb _ _ _ g3;obtain⟨u1,u2⟩:=u;simp only at hu g4;subst hu;obtain⟨v,g5,g6⟩:=xz.1 g4;unfold qfm at g5;rw[if_neg (by omega),if_neg (by omega),if_neg (by omega),if_pos hq,List.getLast?_concat,List.dropLast_concat]at g5;simp only at g5;split at g5
   ·injection g5 with g5;subst g5
    exact ihl _ _ _ g6
   ·cases g5
theorem zcy{p q:Pt}{b:List Pt}(hp:p.kind=3\/p.kind=4)(hq:q.kind=5)(hb:Wf o b){x:Sx}{B:List Sx}{y:Sx×List Sx}(h:qeu (p::b++q::l) x B=some y):qeu l x B=some y:=by
 have e:p::b++q::l=p::(b++(q::l)):=by simp
 rw[e]at h;obtain⟨z,g1,g2⟩:=xz.1 h;unfold qfm at g1;rw[if_neg (by omega),if_neg (by omega),if_pos hp]at g1;injection g1 with g1;subst g1;rw[qk7]at g2;obtain⟨u,g3,g4⟩:=xz.1 g2;have hu:=q9m hb _ _ _ g3;obtain⟨u1,u2⟩:=u;simp only at hu g4;subst hu;obtain⟨v,g5,g6⟩:=xz.1 g4;unfold qfm at g5;rw[if_neg (by omega),if_neg (by omega),if_neg (by omega),if_pos hq,List.getLast?_concat,List.dropLast_concat]at g5;simp only at g5;split at g5
 ·rename_i hx
  injection g5 with g5;subst g5;simp only at g6;rw[hx]at g6;exact g6
 ·cases g5
theorem q3p{α:Type}{P l:List α}{p:α}(h:P.drop o=p::l):P[o]?=some p/\P.drop (o+1)=l:=by
 have h1:P[o]?=some p:=by
  have:=yE (·[0]?) h;simpa using this
 refine⟨h1,?_⟩;have:=qym h1;rw[h]at this;exact((List.cons.injEq _ _ _ _).mp this).2.symm
theorem q35(beh:Sr->zU->Sx->Sr×Sx){o:Nat}{l:List Pt}(h:Wf o l):∀(P:List Pt),P.drop o=l->(∀p∈P,p.kind=6->∀s x,beh s p.text x=(s,x)) ->
  ∀(n:Nat) (s:Sr) (x:Sx) (B:List Sx) (y:Sx×List Sx),l.length<n->SxOk x->qeu l x B=some y->qd7 beh P n o s x=(s,y.1):=by
 induction h with
 |nil o=>
   intro P hP ha n s x B y hn hx h;injection h with h;subst h;obtain⟨n,rfl⟩:∃k,n=k+1:=⟨n - 1,by simp at hn;omega⟩;unfold qd7;have:P[o]?=Option.none:=by simpa using hP
   rw[this,qmp hx];rfl
 |leaf o p l hk _ ih=>
   intro P hP ha n s x B y hn hx h;obtain⟨z,h1,h2⟩:=xz.1 h;obtain⟨hp,hd⟩:=q3p hP;have hz:=qsh hx h1;obtain⟨n,rfl⟩:∃k,n=k+1:=⟨n - 1,by simp at hn;omega⟩;have Ha:l.length<n:=by simp at hn;omega
   unfold qd7;rw[hp,qmp hx];unfold qfm at h1;simp only[Bool.false_eq_true,if_false];by_cases k1:p.kind=1
   ·rw[if_pos k1]at h1 |-
    split at h1
    ·cases h1
    ·injection h1 with h1;subst h1
     exact ih P hd ha n s _ _ y Ha hz h2
   rw[if_neg k1]at h1 |-;by_cases k2:p.kind=2
   ·rw[if_pos k2]at h1 |-
    split at h1
    ·injection h1 with h1;subst h1
     exact ih P hd ha n s _ _ y Ha hz h2
    ·cases h1
   rw[if_neg k2,if_neg (by omega),if_neg (by omega)]at h1;rw[if_neg k2,if_neg (by omega),if_pos (by omega),ha p (yl hp) (by omega)];injection h1 with h1;subst h1;exact ih P hd ha n s _ _ y Ha hz h2
 |sec o p q b l hp hq h1 h2 hb _ ihb ihl=>
   intro P hP ha n s x B y hn hx h;have e:p::b++q::l=p::(b++(q::l)):=by simp
   have Hb:=hP;rw[e]at Hb;obtain⟨hc,hd⟩:=q3p Hb;obtain⟨n,rfl⟩:∃k,n=k+1:=⟨n - 1,by simp at hn;omega⟩;have Hc:P.drop (o+b.length+2)=l:=by
    have:P.drop (o+1+b.length+1)=l:=by
     rw[Nat.add_assoc (o+1),<-yD,hd,<-yD,List.drop_left];rfl
    rw[show o+b.length+2=o+1+b.length+1 by omega];exact this
   unfold qd7;rw[hc,qmp hx];simp only[Bool.false_eq_true,if_false];rw[if_neg (by omega),if_neg (by omega),if_pos hp,h1,show o+1+b.length+1=o+b.length+2 by omega];exact ihl P Hc ha n s x B y (by simp at hn;omega) hx (zcy hp hq hb h)
theorem qro(S:List Src)(k:Nat)(s:Sr)(n:zU)(x:Sx)(h:qaj S n=0):behV S k s n x=(s,x):=by
 cases k with
 |zero=>rfl
 |succ k=>unfold behV;rw[if_pos h]
def nmV(S:List Src)(k:Nat)(s:Sr)(n:zU)(x:Sx):Sr×Nat×Sx:=
 let r:=behV S 257 s n x
 if qaj S n=0\/r.1.fault.code≠0 then(r.1,0,r.2)
 else if qhc r.1 (qaj S n,x)=0 then
  (qev S k r.1 (qaj S n,x),qhc (qev S k r.1 (qaj S n,x)) (qaj S n,x),r.2)
 else(r.1,qhc r.1 (qaj S n,x),r.2)
theorem q5j(S:List Src)(k:Nat)(s:Sr)(n:zU)(x:Sx)(h:qaj S n=0):nmV S k s n x=(s,0,x):=by
 unfold nmV;rw[qro S _ s n x h];simp only;rw[if_pos (.inl h)]
def begun(S:List Src)(s:Sr)(e:En):Sr:={ s with nums:=qbi s.nums e s.vis.length,vis:=s.vis++[(e.1,List.replicate (qah S e.1).length 0)] }
theorem qug(S:List Src)(k:Nat)(s:Sr)(e:En):qev S (k+1) s e=goV (nmV S k) S e.1 s.vis.length (qah S e.1) ((qah S e.1).length+1) 0 (begun S s e) e.2 []:=by
 conv=>lhs;unfold qev
 rfl
def q3z(S:List Src)(P:List Pt):Prop:=∀p∈P,p.kind=6->qaj S p.text=0
theorem qz4(S:List Src)(k:Nat)(s:Sr)(e:En)(hw:Wf 0 (qah S e.1))(ha:q3z S (qah S e.1))(h0:s.fault.code=0)(hx:SxOk e.2) :
  zdv S e.1 (qah S e.1) (begun S s e) (qeu (qah S e.1) e.2 []) (qev S (k+1) s e):=by
 rw[qug]
 have:=zcw (nmV S k) S e.1 s.vis.length (qah S e.1) (qo5 hw) (fun p hp hk s x=>q5j S k s _ x (ha p hp hk)) (begun S s e) h0 ((qah S e.1).length+1) 0 (begun S s e) e.2 [] (by omega)
  (by rw[List.drop_zero];have:=q96 hw [] 0 rfl;simpa using this) rfl (Marks.refl _) hx
 rw[List.drop_zero]at this;exact this
theorem qzt(S:List Src)(k:Nat)(s:Sr)(P:List Pt)(hw:Wf 0 P)(ha:q3z S P)(x:Sx)(hx:SxOk x)(B:List Sx)(y:Sx×List Sx)(h:qeu P x B=some y):qd7 (behV S k) P (P.length+1) 0 s x=(s,y.1):=
 q35 (behV S k) hw P rfl (fun p hp hk s x=>qro S k s _ x (ha p hp hk)) _ s x B y (by omega) hx h
theorem q08(S:List Src)(len:Nat)(hw:Wf 0 (qah S 0))(ha:q3z S (qah S 0)) :
  match qeu (qah S 0) Sx.start []with
  |some y=>(y.1=Sx.start->(qew S len).2=Ft.none/\(qew S len).1.length=1)/\(y.1≠Sx.start->(qew S len).2=⟨3,15,qom S 0,len⟩)
  |Option.none=>(qew S len).2.code=3/\(qew S len).2.place=qom S 0/\((qew S len).2.pos=0\/∃p∈qah S 0,(qew S len).2.pos=p.pos\/(p.kind=1/\(qew S len).2.pos<p.pos+p.text.length)):=by
 have h:=qz4 S 257 ⟨[],[],[],Ft.none⟩ (0,Sx.start) hw ha rfl qkj;unfold qew;simp only;generalize qev S 258 ⟨[],[],[],Ft.none⟩ (0,Sx.start)=s at h;unfold zdv at h;cases hf:qeu (qah S 0) Sx.start []with
 |none=>
   simp only[hf]at h |-;have:s.fault.code≠0:=by rw[h.1];decide
   rw[if_pos this];exact h
 |some y=>
   simp only[hf]at h |-;have hz:s.fault.code=0:=by rw[h.1];rfl
   have Ha:=qzt S 257 s _ hw ha Sx.start qkj [] y hf;rw[if_neg (by rw[hz];simp),Ha];have hy:SxOk y.1:=by
    clear Ha h hz;have hb:∀(l:List Pt) (x:Sx) (B:List Sx) (y:Sx×List Sx),SxOk x->qeu l x B=some y->SxOk y.1:=by
     intro l
     induction l with
     |nil=>intro x B y hx h;injection h with h;subst h;exact hx
     |cons p l ih=>
       intro x B y hx h;obtain⟨z,h1,h2⟩:=xz.1 h;exact ih _ _ _ (qsh hx h1) h2
    exact hb _ _ _ _ qkj hf
   refine⟨fun e=>?_,fun e=>?_⟩
   ·rw[if_neg (fun q=>q.2 e),if_neg (by rw[hz];simp)]
    refine⟨rfl,?_⟩;rw[h.2.vis];rfl
   ·rw[if_pos ⟨qmp hy,e⟩]
variable{c d:Ct}{a:Nat}
theorem zaf(t:zU):∀(n m:Nat) (c:Ct) (a:Nat),CtOk t c a->t.length - a<n->t.length - a<m->Ct.go t n c a=Ct.go t m c a:=by
 intro n
 induction n with
 |zero=>intro m c a _ h _;omega
 |succ n ih=>
   intro m c a hc hn hm;obtain⟨m,rfl⟩:∃k,m=k+1:=⟨m - 1,by omega⟩;unfold Ct.go;cases hs:c.step t a with
   |slip k p=>rfl
   |over d=>rfl
   |next d b=>
     obtain⟨h1,h2⟩:=qhj hc hs;have:=h1.le;exact ih m d b h1 (by omega) (by omega)
def Ct.rest(t:zU)(c:Ct)(a:Nat):(Nat×Nat)×List Pt:=Ct.go t (t.length - a+1) c a
theorem qw0{t:zU}{b:Nat}(h:CtOk t c a)(hs:c.step t a=.next d b):c.rest t a=d.rest t b:=by
 obtain⟨h1,h2⟩:=qhj h hs;have:=h1.le;unfold Ct.rest;have e:Ct.go t (t.length - a+1) c a=Ct.go t (t.length - a) d b:=by
  conv=>lhs;unfold Ct.go
  rw[hs]
 rw[e];exact zaf t _ _ d b h1 (by omega) (by omega)
theorem qfo{t:zU}{k p:Nat}(hs:c.step t a=.slip k p):c.rest t a=((k,p),[]):=by
 unfold Ct.rest Ct.go;rw[hs]
theorem qwz{t:zU}(hs:c.step t a=.over d):c.rest t a=(d.left,d.parts):=by
 unfold Ct.rest Ct.go;rw[hs]
theorem qrg(t:zU)(h:t.length<=2000):qam t=if(Ct.start.rest t 0).1.1=0 then((0,0),(Ct.start.rest t 0).2)else((Ct.start.rest t 0).1,[]):=by
 unfold qam Ct.rest;rw[if_neg (by omega)];rfl
theorem qmh{t:zU}(h:(Go.Lib.cut (t.drop a) c.op).2.2=false):c.step t a=.over (c.addText t a t.length):=by
 unfold Ct.step;rw[if_pos h]
theorem qgt{t:zU}(h:(Go.Lib.cut (t.drop a) c.op).2.2=true)(h2:(Go.Lib.cut (Go.Lib.cut (t.drop a) c.op).2.1 c.cl).2.2=false):c.step t a=.slip 2 (a+(Go.Lib.cut (t.drop a) c.op).1.length):=by
 unfold Ct.step;rw[if_neg (by rw[h];simp)];simp only[h2,if_true]
theorem qpa{t:zU}(h:(Go.Lib.cut (t.drop a) c.op).2.2=true)(h2:(Go.Lib.cut (Go.Lib.cut (t.drop a) c.op).2.1 c.cl).2.2=true)(one:Tg)(h1:qba (Go.Lib.trimS (Go.Lib.cut (Go.Lib.cut (t.drop a) c.op).2.1 c.cl).1 qag)=one)
  (p tz:Nat) (hp:a+(Go.Lib.cut (t.drop a) c.op).1.length=p) (ha:p+c.op.length+(Go.Lib.cut (Go.Lib.cut (t.drop a) c.op).2.1 c.cl).1.length+c.cl.length=tz) (o:Nat×Nat) (ho:(if one.kind≠2 then qel t p tz else(p,tz))=o) :
  c.step t a=if((c.addText t a o.1).take one p).1≠0 then .slip ((c.addText t a o.1).take one p).1 p else .next ((c.addText t a o.1).take one p).2 o.2:=by
 subst ho ha hp h1;unfold Ct.step;rw[if_neg (by rw[h];simp)];simp only[h2,Bool.true_eq_false,if_false]
theorem q0q(l:zU):(qba l).kind=qay l:=by
 have hn:∀k n,(qcc k n).kind=k:=by
  intro k n;unfold qcc;split<;>split<;>rfl
 unfold qba;by_cases h7:qay l=7
 ·rw[if_pos h7,h7]
 rw[if_neg h7];by_cases h8:qay l=8
 ·rw[if_pos h8,h8]
  unfold qdc;split
  ·rfl
  ·split
   ·split<;>rfl
   ·rfl
 rw[if_neg h8];split
 ·rename_i h2;rw[hn,h2]
 ·exact hn _ _
deriving instance DecidableEq for Tg
variable{c:Ct}{a:Nat}
structure PtIn(t:zU)(p:Pt):Prop where
 pos:p.pos<=t.length
 text:p.kind=1->p.pos+p.text.length<=t.length
 name:p.kind=6->p.text <:+: t
theorem qt0{t:zU}{z:Nat}(h:∀p∈c.parts,PtIn t p)(ha:a<=t.length):∀p∈(c.addText t a z).parts,PtIn t p:=by
 unfold Ct.addText;split
 ·intro p hp
  simp only[yn,yv]at hp;rcases hp with hp|rfl
  ·exact h p hp
  ·refine⟨ha,fun _=>?_,fun e=>by cases e⟩
   simp only[yP,yM];omega
 ·exact h
theorem q4r{t:zU}{l:List Pt}(m n:Nat)(h:∀p∈l,PtIn t p):∀p∈qbd l m n,PtIn t p:=by
 induction l generalizing m with
 |nil=>unfold qbd;simp
 |cons q l ih=>
   cases m with
   |zero=>
     intro p hp;have e:qbd (q::l) 0 n={ q with mate:=n }::l:=rfl;rw[e]at hp;rcases xu.1 hp with rfl|hp
     ·have:=h q (by simp);exact⟨this.pos,this.text,this.name⟩
     ·exact h p (yY _ hp)
   |succ m=>
     intro p hp;have e:qbd (q::l) (m+1) n=q::qbd l m n:=by simp[qbd]
     rw[e]at hp;rcases xu.1 hp with rfl|hp
     ·exact h p (by simp)
     ·exact ih m (fun r hr=>h r (yY _ hr)) p hp
theorem zex{t:zU}{one:Tg}(h:∀p∈c.parts,PtIn t p)(ha:a<=t.length)(hk:one.kind≠1)(hn:one.kind=6->one.name <:+: t):∀p∈(c.take one a).2.parts,PtIn t p:=by
 have hb:PtIn t ⟨one.kind,a,one.name,0⟩:=⟨ha,fun e=>absurd e hk,hn⟩;have Ha:∀(l:List Pt) (q:Pt),(∀p∈l,PtIn t p)->PtIn t q->∀p∈l++[q],PtIn t p:=fun l q hl hq p hp=>by
  simp only[yn,yv]at hp;rcases hp with hp|rfl
  ·exact hl p hp
  ·exact hq
 unfold Ct.take;by_cases h1:one.slip≠0
 ·rw[if_pos h1];exact h
 rw[if_neg h1];by_cases h7:one.kind=7
 ·rw[if_pos h7];exact h
 rw[if_neg h7];by_cases h8:one.kind=8
 ·rw[if_pos h8];exact h
 rw[if_neg h8];by_cases Hb:one.kind=3\/one.kind=4
 ·rw[if_pos Hb]
  split
  ·exact h
  ·exact Ha _ _ h hb
 rw[if_neg Hb];by_cases h5:one.kind=5
 ·rw[if_pos h5]
  split
  ·exact h
  ·rename_i m _
   split
   ·exact h
   ·exact Ha _ _ (q4r _ _ h) ⟨ha,(fun e=>by cases e),(fun e=>by cases e)⟩
 ·rw[if_neg h5]
  exact Ha _ _ h hb
theorem qpy(l cs:zU):Go.Lib.trimS l cs <:+: l:=by
 unfold Go.Lib.trimS Go.Lib.trimLeftS Go.Lib.trimRightS;refine(List.dropWhile_suffix _).isInfix.trans ?_;have:=(List.dropWhile_suffix (cs.contains ·) (l:=l.reverse)).isInfix;rw[<-List.reverse_infix,List.reverse_reverse];exact this
theorem q0p(l:zU)(h:(qba l).kind=6):(qba l).name <:+: l:=by
 rw[q0q]at h;unfold qba;rw[if_neg (by omega),if_neg (by omega),if_neg (by omega)];unfold qcc;rw[if_pos h];split
 ·unfold Go.Lib.trimLeftS
  exact(List.dropWhile_suffix _).isInfix.trans (List.drop_suffix _ _).isInfix
 ·exact List.nil_infix
theorem ze3{t:zU}(hc:CtOk t c a)(h:∀p∈c.parts,PtIn t p) :
  (∀k p,c.step t a=.slip k p->p<=t.length)/\(∀d,c.step t a=.over d->∀p∈d.parts,PtIn t p)/\(∀d b,c.step t a=.next d b->∀p∈d.parts,PtIn t p):=by
 have hb:=hc.le;cases ha:(Go.Lib.cut (t.drop a) c.op).2.2 with
 |false=>
   rw[qmh ha];refine⟨fun k p e=>(by cases e),fun d e=>?_,fun d b e=>(by cases e)⟩;injection e with e;subst e;exact qt0 h hb
 |true=>
   obtain⟨i1,hf,Hb,Hf,Hc,hg⟩:=qj8 _ _ ha;rw[yM]at Hb;cases Ha:(Go.Lib.cut (Go.Lib.cut (t.drop a) c.op).2.1 c.cl).2.2 with
   |false=>
     rw[qgt ha Ha];refine⟨fun k p e=>?_,fun d e=>(by cases e),fun d b e=>(by cases e)⟩;injection e with e1 e2;omega
   |true=>
     obtain⟨i2,Hg,hi,he,Hi,hj⟩:=qj8 _ _ Ha;obtain⟨one,h1⟩:∃one,qba (Go.Lib.trimS (Go.Lib.cut (Go.Lib.cut (t.drop a) c.op).2.1 c.cl).1 qag)=one:=⟨_,rfl⟩;have ho:=qqh (Go.Lib.trimS (Go.Lib.cut (Go.Lib.cut (t.drop a) c.op).2.1 c.cl).1 qag);have hn:=q0p (Go.Lib.trimS (Go.Lib.cut (Go.Lib.cut (t.drop a) c.op).2.1 c.cl).1 qag);have He:Go.Lib.trimS (Go.Lib.cut (Go.Lib.cut (t.drop a) c.op).2.1 c.cl).1 qag <:+: t:=by
      refine(qpy _ _).trans ?_;rw[he];refine(List.take_prefix _ _).isInfix.trans ?_;rw[Hc];exact(List.drop_suffix _ _).isInfix.trans (List.drop_suffix _ _).isInfix
     rw[h1]at ho hn;generalize hO:(if one.kind≠2 then qel t (a+(Go.Lib.cut (t.drop a) c.op).1.length) (a+(Go.Lib.cut (t.drop a) c.op).1.length+c.op.length+(Go.Lib.cut (Go.Lib.cut (t.drop a) c.op).2.1 c.cl).1.length+c.cl.length)else(a+(Go.Lib.cut (t.drop a) c.op).1.length,a+(Go.Lib.cut (t.drop a) c.op).1.length+c.op.length+(Go.Lib.cut (Go.Lib.cut (t.drop a) c.op).2.1 c.cl).1.length+c.cl.length))=o;rw[qpa ha Ha one h1 _ _ rfl rfl o hO];have hp:a+(Go.Lib.cut (t.drop a) c.op).1.length<=t.length:=by omega
     have hk:=ho.kind;refine⟨fun k p e=>?_,fun d e=>?_,fun d b e=>?_⟩
     ·split at e
      ·injection e with e1 e2;omega
      ·cases e
     ·split at e<;>cases e
     ·split at e
      ·cases e
      ·injection e with e1 e2
       subst e1;exact zex (qt0 h hb) hp (by omega) (fun h6=>(hn h6).trans He)
theorem zfq{t:zU}(h:∀p∈c.parts,PtIn t p):c.left.2<=t.length:=by
 unfold Ct.left;split
 ·exact yH _
 ·rename_i m _
  show qk2 c.parts m<=_;unfold qk2;split
  ·rename_i p hp;exact(h p (yl hp)).pos
  ·exact yH _
theorem zh6(t:zU):∀(n:Nat) (c:Ct) (a:Nat),CtOk t c a->(∀p∈c.parts,PtIn t p)->(Ct.go t n c a).1.2<=t.length/\∀p∈(Ct.go t n c a).2,PtIn t p:=by
 intro n
 induction n with
 |zero=>intro c a _ _;exact⟨yH _,fun p hp=>by cases hp⟩
 |succ n ih=>
   intro c a hc h;obtain⟨h1,h2,h3⟩:=ze3 hc h;unfold Ct.go;cases hs:c.step t a with
   |slip k p=>exact⟨h1 k p hs,fun p hp=>by cases hp⟩
   |over d=>exact⟨zfq (h2 d hs),h2 d hs⟩
   |next d b=>exact ih d b (qhj hc hs).1 (h3 d b hs)
theorem q99(t:zU):(qam t).1.2<=t.length/\∀p∈(qam t).2,PtIn t p:=by
 have h:=zh6 t (t.length+1) Ct.start 0 (qik t) (fun p hp=>by cases hp);unfold qam;split
 ·exact⟨yH _,fun p hp=>by cases hp⟩
 ·split
  ·exact⟨yH _,h.2⟩
  ·exact⟨h.1,fun p hp=>by cases hp⟩
deriving instance DecidableEq for Pt
theorem qzl(P:List Pt):q3z [⟨[],P⟩] P:=fun _ _ _=>rfl
theorem qs3{t:zU}{L:List (zU×zU)}(h6:L.length<=6)(ha:qhn (L.map (·.1))=true):qc5 t L =
  if(qa5 (([],t)::L)).1.code≠0 then(([],[]),(qa5 (([],t)::L)).1)else
  if(qew (qa5 (([],t)::L)).2 t.length).2.code≠0 then(([],[]),(qew (qa5 (([],t)::L)).2 t.length).2)
  else(((qew (qa5 (([],t)::L)).2 t.length).1,(qa5 (([],t)::L)).2),Ft.none):=by
 unfold qc5;rw[if_neg (fun q=>q.elim (fun q=>absurd h6 (by omega)) (fun q=>by rw[ha]at q;cases q))]
theorem qou{n t:zU}{L:List (zU×zU)}(h:(qam t).1.1≠0):qa5 ((n,t)::L)=(⟨2,(qam t).1.1,n,(qam t).1.2⟩,[]):=by
 unfold qa5;rw[if_pos h]
theorem q13{n t:zU}(h:(qam t).1.1=0):qa5 [(n,t)]=(Ft.none,[⟨n,(qam t).2⟩]):=by
 unfold qa5;rw[if_neg (fun q=>q h)];rfl
theorem qxf{t:zU}(hc:(qam t).1.1=0)(hf:qeu (qam t).2 Sx.start []=some (Sx.start,[])):(qc5 t []).2=Ft.none:=by
 rw[qs3 (by simp) rfl,q13 hc,if_neg (by simp[Ft.none])];have hl:=q08 [⟨[],(qam t).2⟩] t.length (qrh t hc).1 (qzl _);have e:qah [⟨[],(qam t).2⟩] 0=(qam t).2:=rfl;rw[e,hf]at hl;rw[if_neg (by rw[(hl.1 rfl).1];decide)]
end Pl
section
open Go.Maps Go.MapKept Go.ChangeMaps
variable{w w':World}{b:Nat}{L:List (Value×Value)}
def qfj(w:World)(b:Nat)(L:List (Value×Value)):Prop:=∃es clock,w.heap[b]?=some (.map es clock)/\es.toList.map (fun e=>(e.key,e.val))=L
structure KeysOk(P:Program)(K:TypeId)(L:List (Value×Value)):Prop where
 key:∀p∈L,∃l,keyOf P K p.1=some l
 one:∀(i j:Nat) (p q:Value×Value),L[i]?=some p->L[j]?=some q->p.1=q.1->i=j
theorem qfj.lt(h:qfj w b L):b<w.heap.size:=by
 obtain⟨es,c,hb,_⟩:=h;rcases Nat.lt_or_ge b w.heap.size with q|q
 ·exact q
 ·rw[Array.getElem?_eq_none q]at hb;cases hb
theorem qfj.heap(h:qfj w b L)(hw:w'.heap[b]?=w.heap[b]?):qfj w' b L:=by
 obtain⟨es,c,hb,hl⟩:=h;exact⟨es,c,hw.trans hb,hl⟩
theorem qfj.kept{row:Option Nat}(h:qfj w b L)(hg:w.grownBy w' row)(ha:some b≠row):qfj w' b L:=h.heap (hg.block b h.lt ha)
section
variable {P:Program}{K t e:TypeId}{w:World}{b:Nat}{L:List (Value×Value)}
theorem qu7(law:Keyed P K)(h:qfj w b L)(hk:KeysOk P K L){key:Value}{kl:Lit}(ha:keyOf P K key=some kl) :
  ∃es clock,w.heap[b]?=some (.map es clock)/\es.toList.map (fun e=>(e.key,e.val))=L/\(∀W:World,
    (((Instr.findKey K key es.toList).run P W=.ok none W/\∀p∈L,p.1≠key) \/
    ∃(j:Nat) (v:Value),(Instr.findKey K key es.toList).run P W=.ok (some (j,v)) W/\L[j]?=some (key,v)/\es[j]?.map (·.key)=some key)):=by
 obtain⟨es,clock,hb,hl⟩:=h;refine⟨es,clock,hb,hl,fun W=>?_⟩;have Ha:∀x∈es.toList,∃l,keyOf P K x.key=some l:=fun x hx=>hk.key (x.key,x.val) (by rw[<-hl];exact xt.2 ⟨x,hx,rfl⟩);rcases law.find W ha es.toList Ha with⟨h1,h2⟩|⟨j,e0,h1,h2,h3⟩
 ·refine .inl ⟨h1,fun p hp=>?_⟩
  rw[<-hl]at hp;obtain⟨x,hx,rfl⟩:=xt.1 hp;exact h2 x hx
 ·refine .inr ⟨j,e0.val,h1,?_,?_⟩
  ·rw[<-hl,yz,h2];simp[h3]
  ·rw[<-Array.getElem?_toList,h2];simp[h3]
theorem qix(law:Keyed P K)(ht:P.underlying t=some (.map K e)){z:Value}(hz:(zeroValue e).run P w=.ok z w)(h:qfj w b L)(hk:KeysOk P K L){key:Value}{kl:Lit}(ha:keyOf P K key=some kl)(Ha:∀p∈L,p.1≠key)(c:Bool) :
  (Instr.lookup t (.map (some b)) key c).run P w=.ok (if c then .tuple #[z,.bool false]else z) w:=by
 obtain⟨es,clock,hb,hl,hf⟩:=qu7 law h hk ha;rcases hf w with⟨h1,_⟩|⟨j,v,_,h2,_⟩
 ·simp[Instr.lookup,run_underlying ht,MapKept.run_getObj_map hb,law.check w _ ha,h1,hz,Result.andThen]
 ·exact absurd rfl (Ha _ (yl h2))
theorem qh3(law:Keyed P K)(ht:P.underlying t=some (.map K e))(h:qfj w b L)(hk:KeysOk P K L){key:Value}{kl:Lit}(ha:keyOf P K key=some kl){v:Value}(hv:(key,v)∈L)(c:Bool) :
  (Instr.lookup t (.map (some b)) key c).run P w=.ok (if c then .tuple #[v,.bool true]else v) w:=by
 obtain⟨es,clock,hb,hl,hf⟩:=qu7 law h hk ha;rcases hf w with⟨_,h1⟩|⟨j,u,h1,h2,_⟩
 ·exact absurd rfl (h1 _ hv)
 ·obtain⟨i,hi,Ha⟩:=List.getElem_of_mem hv
  have e1:i=j:=hk.one i j (key,v) (key,u) (by rw[yc hi,Ha]) h2 rfl;subst e1;rw[yc hi,Ha]at h2;have e2:v=u:=by simpa using h2
  subst e2;simp[Instr.lookup,run_underlying ht,MapKept.run_getObj_map hb,law.check w _ ha,h1,Result.andThen]
theorem qiw(law:Keyed P K)(ht:P.underlying t=some (.map K e))(h:qfj w b L)(hk:KeysOk P K L){key val:Value}{kl:Lit}(ha:keyOf P K key=some kl)(Ha:∀p∈L,p.1≠key) :
  ∃w',(Instr.mapUpdate t (.map (some b)) key val).run P w=.ok () w'/\qfj w' b (L++[(key,val)])/\w.grownBy w' (some b)/\w'.heap.size=w.heap.size:=by
 obtain⟨es,clock,hb,hl,hf⟩:=qu7 law h hk ha;rcases hf w with⟨h1,_⟩|⟨j,u,_,h2,_⟩
 ·refine⟨setBlock w b (.map (es.push ⟨key,val,clock⟩) (clock+1)),?_,⟨_,_,heap_setBlock_same hb _,?_⟩,⟨rfl,rfl,rfl,by simp[setBlock],fun i _ hi=>heap_setBlock_other hb _ (fun e=>hi (by rw[e]))⟩,by simp[setBlock]⟩
  ·simp[Instr.mapUpdate,run_underlying ht,MapKept.run_getObj_map hb,law.check w false ha,h1,MapKept.run_setObj_map _ hb,Result.andThen,setBlock]
  ·rw[Array.toList_push,yG,hl];rfl
 ·exact absurd rfl (Ha _ (yl h2))
theorem qk9(law:Keyed P K)(ht:P.underlying t=some (.map K e))(h:qfj w b L)(hk:KeysOk P K L){key val v:Value}{kl:Lit}(ha:keyOf P K key=some kl)(i:Nat)(hv:L[i]?=some (key,v)) :
  ∃w',(Instr.mapUpdate t (.map (some b)) key val).run P w=.ok () w'/\qfj w' b (L.set i (key,val))/\w.grownBy w' (some b)/\w'.heap.size=w.heap.size:=by
 obtain⟨es,clock,hb,hl,hf⟩:=qu7 law h hk ha;rcases hf w with⟨_,h1⟩|⟨j,u,h1,h2,h3⟩
 ·exact absurd rfl (h1 _ (yl hv))
 ·have e1:i=j:=hk.one i j _ _ hv h2 rfl
  subst e1;obtain⟨e0,h4,h5⟩:=yy.1 h3;refine⟨setBlock w b (.map (es.modify i (fun e'=>{ e' with key:=key,val:=val })) clock),?_,⟨_,_,heap_setBlock_same hb _,?_⟩,⟨rfl,rfl,rfl,by simp[setBlock],fun i _ hi=>heap_setBlock_other hb _ (fun e=>hi (by rw[e]))⟩,by simp[setBlock]⟩
  ·simp[Instr.mapUpdate,run_underlying ht,MapKept.run_getObj_map hb,law.check w false ha,h1,h4,h5,law.stays w ha,MapKept.run_setObj_map _ hb,Result.andThen,setBlock]
  ·rw[Array.toList_modify,modify_eq_set _ _ _ _ (by rw[Array.getElem?_toList];exact h4),List.map_set,hl]
end
end
variable{P:Program}{fn:Func}{p:Tmp}{w:World}{fz:Nat×Nat}
def aggD:TypeDesc->Bool
 |.struct _=>true
 |.array _ _=>true
 |_=>false
theorem qbn{ty:TypeId}(h:fn.results=#[.cell p ty])(tmps:Array Value)(w:World)(g:Nat)(cs:Array Value)(d:TypeDesc)(hp:tmps.getD p undef=zP g)
  (hg:∀j v,cs.toList[j]?=some v->w.cell? (zO g j)=some v)
  (hu:P.underlying ty=some d) (hd:aggD d=true) (hi:(P.info? ty).map (·.size)=some cs.size) :
  (results fn tmps).run P w=.ok (.agg cs) w:=by
 have hl:=qbb (P:=P) w g ty cs d hg hu (by cases d<;>first|rfl|cases hd) hi
 rw[yZ]at hp;simp only[results,h];simp[hp,asAddr,hl]
theorem qaa{g:Nat}{cs:Array Value}{t:TypeId}(h:w.heap[g]?=some (.cells cs t fz)):∀(j:Nat) (v:Value),cs.toList[j]?=some v->w.cell? (zO g j)=some v:=by
 intro j v hv;rw[cell_of_row w g j cs t fz h];simpa using hv
theorem qb8{R:Ending->World->Prop}{a:Act}{ty t:TypeId}(h:fn.results=#[.cell p ty])(g:Nat)(cs:Array Value)(d:TypeDesc)
  (hu:P.underlying ty=some d) (hd:aggD d=true)
  (hp:a.tmps.getD p undef=zP g) (hg:w.heap[g]?=some (.cells cs t fz)) (hi:(P.info? ty).map (·.size)=some cs.size) (ha:a.defers=[]) (hR:R (.returned (.agg cs)) w):bodyPost P fn R .ret a w:=
 bodyPost_ret (qbn h a.tmps w g cs d hp (qaa hg) hu hd hi) ha hR
theorem qko{f:FuncId}{args:Array Value}{n:Nat}{v:Value}
  (h:Calls P f args (w.drewN n) fun e w'=>e=.returned v/\w.drewN n=w'):Calls P f args (w.drewN n) fun e w''=>e=.returned v/\∃m,w''=w.drewN m:=
 h.mono fun _ _ ⟨he,hm⟩=>⟨he,n,hm.symm⟩
theorem qat{B:Nat}{a:World}(h:Below B a w)(n:Nat):Below B a (w.drewN n):=⟨h.os,h.tape,h.output,h.size,h.block⟩
namespace Pl
variable{x:Sx}{e:En}{n:Nat}
structure SxFit(x:Sx):Prop where
 ok:SxOk x
 far:0<=x.ma.far/\x.ma.far<=3
theorem qmi:SxFit Sx.start:=⟨qkj,by decide⟩
theorem qvj(kind:Int)(m:Nat)(far:Int)(b:UInt8)(h:0<=far/\far<=3):0<=qdt kind m far b/\qdt kind m far b<=3:=by
 unfold qdt
 repeat' split
 all_goals omega
theorem qpc:(0:Int)<=Mk.none.far/\Mk.none.far<=3:=by decide
theorem qvl(m:Nat)(e:Bool)(b:UInt8):0<=(qa7 m e b).far/\(qa7 m e b).far<=3:=by
 unfold qa7;split
 ·exact qpc
 ·split
  ·exact⟨Int.le_refl _,by simp⟩
  ·exact qpc
theorem qzb(s:St)(k:Mk)(b:UInt8)(h:0<=k.far/\k.far<=3):0<=(qe8 s k b).far/\(qe8 s k b).far<=3:=by
 unfold qe8 qls qms;split
 ·exact qpc
 ·split
  ·exact qvl _ _ _
  ·split
   ·unfold qch
    simp only;split
    ·exact qvj _ _ _ _ h
    ·omega
   ·exact qpc
theorem qtv(b:UInt8)(h:SxFit x):SxFit (x.behind b):=⟨qlk b h.ok,qzb _ _ b h.far⟩
theorem qku(l:zU):∀x:Sx,SxFit x->SxFit (qax x l):=by
 induction l with
 |nil=>intro x h;exact h
 |cons b l ih=>intro x h;exact ih _ (qtv b h)
theorem qmy(h:SxFit x):SxFit x.behindHole:=by
 refine⟨qi9 x h.ok,?_⟩;unfold Sx.behindHole;split
 ·exact⟨by simp,by simp⟩
 ·exact h.far
def qv7(x:Sx):Prop:=x=Sx.none\/SxFit x
theorem qq9(h:qv7 x)(hn:¬x.isNone=true):SxFit x:=by
 rcases h with rfl|h
 ·exact absurd rfl hn
 ·exact h
section
variable {α:Type}
theorem qg3{l:List (En×α)}{v:α}(h:qa9 l e=some v):(e,v)∈l:=by
 induction l with
 |nil=>cases h
 |cons p l ih=>
   obtain⟨k,u⟩:=p;unfold qa9 at h;split at h
   ·rename_i hk
    injection h with h;subst h hk;simp
   ·exact yY _ (ih h)
theorem qly{l:List (En×α)}(h:qa9 l e=Option.none):∀p∈l,p.1≠e:=by
 induction l with
 |nil=>intro p hp;cases hp
 |cons p l ih=>
   obtain⟨k,u⟩:=p;unfold qa9 at h;split at h
   ·cases h
   ·rename_i hk
    intro q hq;rcases xu.1 hq with rfl|hq
    ·exact hk
    ·exact ih h q hq
theorem qfg{l:List (En×α)}(h:qa9 l e=Option.none)(v:α):qbi l e v=l++[(e,v)]:=by
 induction l with
 |nil=>rfl
 |cons p l ih=>
   obtain⟨k,u⟩:=p;unfold qa9 at h;split at h
   ·cases h
   ·rename_i hk
    unfold qbi;rw[if_neg hk,ih h];rfl
theorem qif{l:List (En×α)}{u:α}(h:qa9 l e=some u)(v:α):∃i,l[i]?=some (e,u)/\qbi l e v=l.set i (e,v):=by
 induction l with
 |nil=>cases h
 |cons p l ih=>
   obtain⟨k,w⟩:=p;unfold qa9 at h;split at h
   ·rename_i hk
    injection h with h;subst h hk;refine⟨0,rfl,?_⟩;unfold qbi;rw[if_pos rfl];rfl
   ·rename_i hk
    obtain⟨i,h1,h2⟩:=ih h;refine⟨i+1,by simpa using h1,?_⟩;unfold qbi;rw[if_neg hk,h2];rfl
theorem qg2(l:List (En×α))(e:En)(v:α)(e':En):qa9 (qbi l e v) e'=if e=e' then some v else qa9 l e':=by
 induction l with
 |nil=>rfl
 |cons p l ih=>
   obtain⟨k,u⟩:=p;unfold qbi;by_cases hk:k=e
   ·rw[if_pos hk]
    subst hk;unfold qa9;split
    ·rfl
    ·rfl
   ·rw[if_neg hk]
    unfold qa9;rw[ih];by_cases h1:k=e'
    ·rw[if_pos h1,if_pos h1,if_neg (fun h=>hk (h1.trans h.symm))]
    ·rw[if_neg h1,if_neg h1]
theorem qsu(l:List (En×α))(e:En)(v:α):(qbi l e v).length=if qa9 l e=Option.none then l.length+1 else l.length:=by
 split
 ·rename_i h;rw[qfg h];simp
 ·rename_i h
  cases hg:qa9 l e with
  |none=>exact absurd hg h
  |some u=>obtain⟨i,_,h2⟩:=qif hg v;rw[h2];simp
def ql6(l:List (En×α)):Prop:=∀(i j:Nat) (p q:En×α),l[i]?=some p->l[j]?=some q->p.1=q.1->i=j
theorem qqz{l:List (En×α)}(h:ql6 l)(e:En)(v:α):ql6 (qbi l e v):=by
 cases hg:qa9 l e with
 |none=>
   rw[qfg hg];have hn:=qly hg;intro i j p q hi hj ha;rw[yI]at hi hj;split at hi<;>split at hj
   ·exact h i j p q hi hj ha
   ·exfalso
    rename_i h1 h2;have:j - l.length=0:=by
     have:=(yb.1 hj).1;simp at this;omega
    rw[this]at hj;simp at hj;subst hj;exact hn p (yl hi) ha
   ·exfalso
    have:i - l.length=0:=by
     have:=(yb.1 hi).1;simp at this;omega
    rw[this]at hi;simp at hi;subst hi;exact hn q (yl hj) ha.symm
   ·have h1:=(yb.1 hi).1
    have h2:=(yb.1 hj).1;simp at h1 h2;omega
 |some u=>
   obtain⟨k,h1,h2⟩:=qif hg v;rw[h2];intro i j p q hi hj ha;have fix:∀(i:Nat) (p:En×α),(l.set k (e,v))[i]?=some p->∃p',l[i]?=some p'/\p'.1=p.1:=by
    intro i p hi;rw[List.getElem?_set]at hi;split at hi
    ·rename_i Ha
     subst Ha;split at hi
     ·injection hi with hi;subst hi;exact⟨_,h1,rfl⟩
     ·cases hi
    ·exact⟨p,hi,rfl⟩
   obtain⟨p',e1,e2⟩:=fix i p hi;obtain⟨q',e3,e4⟩:=fix j q hj;exact h i j p' q' e1 e3 (by rw[e2,e4,ha])
theorem qnp{l:List (En×α)}{v:α}{p:En×α}(h:p∈qbi l e v):p=(e,v)\/p∈l:=by
 cases hg:qa9 l e with
 |none=>rw[qfg hg]at h;simp at h;exact h.symm
 |some u=>
   obtain⟨k,h1,h2⟩:=qif hg v;rw[h2]at h;rcases List.mem_or_eq_of_mem_set h with h|h
   ·exact .inr h
   ·exact .inl h
end
structure EndsOk(n:Nat)(l:List (En×Sx)):Prop where
 key:∀p∈l,SxFit p.1.2/\1<=p.1.1/\p.1.1<n
 val:∀p∈l,qv7 p.2
 one:ql6 l
 few:l.length<=256
theorem q59(n:Nat):EndsOk n []:=⟨fun _ h=>(by cases h),fun _ h=>(by cases h),fun i j p q h=>(by simp at h),by decide⟩
theorem qkv{l:List (En×Sx)}(h:EndsOk n l){e:En}{v:Sx}(he:SxFit e.2/\1<=e.1/\e.1<n)(hv:qv7 v)(hf:(qbi l e v).length<=256):EndsOk n (qbi l e v):=
 ⟨fun p hp=>(qnp hp).elim (fun q=>q▸he) (h.key p),fun p hp=>(qnp hp).elim (fun q=>q▸hv) (h.val p),qqz h.one e v,hf⟩
theorem qsw(n:zU):∀(l:List Src) (i:Nat),qh4 n i l=0\/(i<=qh4 n i l/\qh4 n i l<i+l.length)
 |[],i=>.inl rfl
 |s::l,i=>by
   unfold qh4;split
   ·exact .inr ⟨yg _,by simp⟩
   ·rcases qsw n l (i+1)with h | h
    ·exact .inl h
    ·exact .inr ⟨by omega,by simp;omega⟩
theorem qfh(S:List Src)(n:zU)(h:qaj S n≠0):1<=qaj S n/\qaj S n<S.length:=by
 unfold qaj at h |-;rcases qsw n (S.drop 1) 1 with q|q
 ·exact absurd q h
 ·rw[yM]at q;omega
structure Grew(n:Nat)(s s':Sr):Prop where
 ok:EndsOk n s'.ends
 more:s.ends.length<=s'.ends.length
 has:∀e,qa9 s.ends e≠Option.none->qa9 s'.ends e≠Option.none
 nums:s'.nums=s.nums
 vis:s'.vis=s.vis
 fault:s'.fault=s.fault\/s'.fault=qtd
theorem Grew.refl{s:Sr}(h:EndsOk n s.ends):Grew n s s:=⟨h,yg _,fun _ h=>h,rfl,rfl,.inl rfl⟩
theorem Grew.trans{a b c:Sr}(h:Grew n a b)(k:Grew n b c):Grew n a c:=
 ⟨k.ok,yh h.more k.more,fun e q=>k.has e (h.has e q),k.nums.trans h.nums,k.vis.trans h.vis,by
  rcases k.fault with q|q
  ·rw[q];exact h.fault
  ·exact .inr q⟩
def zhx(n:Nat)(beh:Sr->zU->Sx->Sr×Sx)(m:Nat):Prop:=∀s t x,EndsOk n s.ends->m<=s.ends.length->SxFit x->Grew n s (beh s t x).1/\qv7 (beh s t x).2
theorem qo6{m:Nat}{beh:Sr->zU->Sx->Sr×Sx}(hb:zhx n beh m)(P:List Pt):∀(k a:Nat) (s:Sr) (x:Sx),EndsOk n s.ends->m<=s.ends.length->qv7 x->Grew n s (qd7 beh P k a s x).1/\qv7 (qd7 beh P k a s x).2:=by
 intro k
 induction k with
 |zero=>intro a s x h _ hx;exact⟨Grew.refl h,hx⟩
 |succ k ih=>
   intro a s x h hm hx;unfold qd7;by_cases hn:x.isNone=true
   ·rw[if_pos hn];exact⟨Grew.refl h,hx⟩
   rw[if_neg hn];have hf:=qq9 hx hn;cases hp:P[a]? with
   |none=>exact⟨Grew.refl h,hx⟩
   |some p=>
     simp only;split
     ·exact ih _ s _ h hm (.inr (qku _ _ hf))
     ·split
      ·exact ih _ s _ h hm (.inr (qmy hf))
      ·split
       ·exact ih _ s _ h hm hx
       ·split
        ·obtain⟨h1,h2⟩:=hb s p.text x h hm hf
         obtain⟨h3,h4⟩:=ih (a+1) _ _ h1.ok (yh hm h1.more) h2;exact⟨h1.trans h3,h4⟩
        ·exact ih _ s _ h hm hx
theorem quz:qv7 Sx.none:=.inl rfl
theorem qke(S:List Src):∀(k m:Nat),257<=m+k->zhx S.length (behV S k) m:=by
 intro k
 induction k with
 |zero=>
   intro m hm s t x h hl hx;have:=h.few;omega
 |succ k ih=>
   intro m hm s t x h hl hx;unfold behV;by_cases h0:qaj S t=0
   ·rw[if_pos h0];exact⟨Grew.refl h,.inr hx⟩
   rw[if_neg h0];have Hc:=qfh S t h0;cases hg:qa9 s.ends (qaj S t,x)with
   |some e=>exact⟨Grew.refl h,h.val _ (qg3 hg)⟩
   |none=>
     simp only;by_cases ha:s.ends.length=256
     ·rw[if_pos ha]
      exact⟨⟨h,yg _,fun _ q=>q,rfl,rfl,.inr rfl⟩,quz⟩
     rw[if_neg ha];have hb:(qbi s.ends (qaj S t,x) Sx.none).length=s.ends.length+1:=by rw[qfg hg];simp
     have Hb:EndsOk S.length (qbi s.ends (qaj S t,x) Sx.none):=qkv h ⟨hx,Hc⟩ quz (by have:=h.few;omega);obtain⟨g1,g2⟩:=qo6 (ih (s.ends.length+1) (by omega)) (qah S (qaj S t)) ((qah S (qaj S t)).length+1) 0 { s with ends:=qbi s.ends (qaj S t,x) Sx.none } x Hb (by show s.ends.length+1<=(qbi _ _ _).length;omega) (.inr hx);generalize qd7 (behV S k) (qah S (qaj S t)) ((qah S (qaj S t)).length+1) 0 { s with ends:=qbi s.ends (qaj S t,x) Sx.none } x=r at g1 g2 |-;have He:s.ends.length+1<=r.1.ends.length:=by have:=g1.more;rw[show({ s with ends:=qbi s.ends (qaj S t,x) Sx.none }:Sr).ends.length=s.ends.length+1 from hb]at this;exact this
     have hc:qa9 r.1.ends (qaj S t,x)≠Option.none:=g1.has _ (by show qa9 (qbi _ _ _) _≠_;rw[qg2,if_pos rfl];simp);have Ha:(qbi r.1.ends (qaj S t,x) r.2).length=r.1.ends.length:=by rw[qsu,if_neg hc]
     refine⟨⟨qkv g1.ok ⟨hx,Hc⟩ g2 (by rw[Ha];exact g1.ok.few),?_,?_,g1.nums,g1.vis,g1.fault⟩,g2⟩
     ·show s.ends.length<=(qbi _ _ _).length;omega
     ·intro e he
      show qa9 (qbi _ _ _) e≠_;rw[qg2];split
      ·simp
      ·refine g1.has e ?_
       show qa9 (qbi _ _ _) e≠_;rw[qg2];split
       ·simp
       ·exact he
end Pl
end Go.Proofs.YtfkhljmiehdgmaaGreatDoor
