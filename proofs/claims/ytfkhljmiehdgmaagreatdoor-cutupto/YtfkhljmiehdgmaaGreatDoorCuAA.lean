/-
  Steps of the proof.
-/
import Derived.Test.YtfkhljmiehdgmaaGreatDoorCuHd
import Derived.Test.YtfkhljmiehdgmaaGreatDoorRows
import Derived.WalkKit
import Derived.WalkSpells
import Derived.WalkLawsBesides
import Derived.Lib.UnsafeStr
import Derived.Says
import Derived.Calls
import Derived.BigQuiet
import Derived.Deep.QuietTactic
import Derived.RegionTactic
import Derived.BigRegion
import Derived.Deep.RegionWith
import Derived.Lib.Split
import Derived.Lib.SlTrimSet
set_option maxRecDepth 100000
set_option maxHeartbeats 40000000
namespace Go.Proofs.YtfkhljmiehdgmaaGreatDoor
open Go.RowKit Go.Proofs.Tryz Pl
variable{P:Program}{w:World}
theorem zdh(w:World)(src dst e:TypeId)(y:P.underlying src=some (.slice e))(z:P.underlying e=some (.int .u8))(hd:P.underlying dst=some .string)
  (B:Nat) (v:Value) (l:zU) (h:w.ownsRow B e 1 v l.length (Lib.byteCells l)) :
  (convert src dst v).run P w=.ok (.string ⟨l.toArray⟩) w:=by
 rcases h with⟨D,⟨rfl,I⟩|⟨g,cap,cur,rfl,J,O,T,U,V,X⟩⟩
 ·have:l=[]:=by simpa using I
  subst this;exact run_convert_bytes_nil w src e y z 0 0 dst hd
 ·refine run_convert_bytes_back w src dst e (zO g 0) cap l y z hd ?_
  intro j Y;have e2:w.cell? (((zO g 0):Addr).add j)=(Lib.byteCells l)[j]?:=by
   have Z:w.ownsRow B e 1 (zF g l.length cap) l.length (Lib.byteCells l):=⟨D,.inr ⟨g,cap,cur,rfl,J,O,T,U,V,X⟩⟩;have:=Z.cellAt j (by simpa using Y);have ha:(((zO g 0):Addr).add j)=(zO g j):=by unfold Addr.add;split<;>simp_all
   rw[ha,this]
  rw[e2];simp[Lib.byteCells,List.getElem?_eq_getElem Y]
theorem qv0(l:zU):(Lib.byteCells l).length=l.length:=Lib.byteCells_length l
theorem qkb(l:zU)(b:UInt8):Lib.byteCells (l++[b])=Lib.byteCells l++[zJ b.toNat]:=by
 rw[Lib.byteCells_append];rfl
theorem qi8{B:Nat}{a w':World}{e:TypeId}{v:Value}{n:Nat}{xs:List Value}(h:Below B a w)(y:w.ownsRow B e 1 v n xs)(z:w.grownBy w' v.ownBlock)(D:B<=w.heap.size):Below B a w':=
 h.grown z D fun k I=>(y.lt k I).1
theorem qbb(w:World)(g:Nat)(ty:TypeId)(cs:Array Value)(d:TypeDesc)(D:∀j v,cs.toList[j]?=some v->w.cell? (zO g j)=some v)
  (I:P.underlying ty=some d) (hd:(match d with|.struct _|.array _ _=>true|_=>false)=true) (J:(P.info? ty).map (·.size)=some cs.size) :
  (loadVar ty (zO g 0)).run P w=.ok (.agg cs) w:=by
 have O:(loadCells (zO g 0) cs.toList.length).run P w=.ok cs.toList.toArray w:=
  run_loadCells_list (P:=P) w (zO g 0) cs.toList (fun j v T=>by
   have y:((zO g 0):Addr).add j=(zO g j):=by unfold Addr.add;split<;>simp_all
   rw[y];exact D j v T)
 cases U:P.info? ty with
 |none=>simp[U]at J
 |some i=>
   have V:i.size=cs.size:=by simpa [U]using J
   have z:(isAgg ty).run P w=.ok true w:=by
    unfold isAgg;rw[Sem.run_bind,run_underlying I w];cases d<;>simp_all
   simp only[Array.length_toList,Array.toArray_toList]at O;simp[loadVar,Sem.run_bind,z,sizeOf,typeInfo,U,V,O]
theorem qib{ops:Array Oper}{rest:List Oper}{o:Oper}{a:Act}{Q:Exit->Act->World->Prop}(y:o.guard=none)(ty:TypeId)(x:Operand)(z:o.op=.load ty x)
  (g:Nat) (D:a.eval x=zP g) (cs:Array Value) (d:TypeDesc) (I:∀j v,cs.toList[j]?=some v->w.cell? (zO g j)=some v)
  (J:P.underlying ty=some d) (hd:(match d with|.struct _|.array _ _=>true|_=>false)=true) (O:(P.info? ty).map (·.size)=some cs.size)
  (h:wpList P ops Q rest (a.put o.dst (.agg cs)) w):wpList P ops Q (o::rest) a w:=
 wpList_plain y fun K hK=>by
  unfold Oper.wp execOp;simp only[z,D,Instr.loadAt,Instr.sureAddr,Sem.run_bind,Sem.run_pure,Result.andThen_ok,qbb w g ty cs d I J hd O];exact hK _ _ h
namespace Pl
def qh5(b:UInt8):Bool:=decide (65<=b.toNat) && decide (b.toNat<=90)
def qbl(b:UInt8):Bool:=(decide (97<=b.toNat) && decide (b.toNat<=122)) || qh5 b
def qea(b:UInt8):Bool:=decide (48<=b.toNat) && decide (b.toNat<=57)
def small(b:UInt8):UInt8:=if qh5 b then b+32 else b
def among(b:UInt8)(l:zU):Bool:=l.any fun c=>c==b
def odd(b:UInt8):Bool:=decide (b.toNat<32) || (decide (b.toNat=127) || among b [34,39,38,47,60,62,92])
theorem qdn(s:zT)(k:Nat)(h:k<s.size):s.data.toList.take (k+1)=s.data.toList.take k++[s[k]]:=by
 rw[yB (by simpa using h)];rfl
theorem qeo(s:zT)(k:Nat)(h:s.size<=k):s.data.toList.take k=s.data.toList:=
 yp (by simpa using h)
theorem quk(s:zT)(k:Nat)(h:k<s.size):s.data.toList=s.data.toList.take k++s[k]::s.data.toList.drop (k+1):=by
 have:=yu k s.data.toList;rw[yo (by simpa using h)]at this;exact this.symm
theorem beq8(a b:UInt8):((a.toNat:Int)==(b.toNat:Int))=(a==b):=by
 rw[xh];simp only[yF,Int.natCast_inj,UInt8.toNat_inj]
theorem qil(a:UInt8)(n:Nat)(h:n<256):((a.toNat:Int)==(n:Int))=(a==UInt8.ofNat n):=by
 rw[<-beq8];simp[Nat.mod_eq_of_lt h]
theorem q6t(b c:UInt8)(l:zU):among b (l++[c])=(among b l || c==b):=by
 simp[among]
theorem zar(b:UInt8)(s:zT)(k:Nat)(h:k<s.size)(y:((s[k].toNat:Int)==(b.toNat:Int))=true):among b s.data.toList=true:=by
 rw[beq8]at y;rw[quk s k h];simp[among,y]
theorem q6u(b:UInt8)(s:zT)(k:Nat)(h:k<s.size)(y:among b (s.data.toList.take k)=false)(z:((s[k].toNat:Int)==(b.toNat:Int))=false):among b (s.data.toList.take (k+1))=false:=by
 rw[beq8]at z;rw[qdn s k h,q6t,y,z];rfl
theorem zas(b:UInt8)(s:zT)(k:Nat)(h:¬k<s.size)(y:among b (s.data.toList.take k)=false):among b s.data.toList=false:=by
 rwa [qeo s k (by omega)]at y
abbrev Step:=Nat×zU×Nat
def qbs:List Step:=[
 (1,[60],2),(2,[97],3),(2,[47],11),(2,[33],13),(3,[9,10,12,13,32,47],4),(3,[62],34),(4,[9,10,12,13,32,47],4),(4,[62],34),
 (5,[9,10,12,13,32],6),(5,[61],7),(5,[47],4),(5,[62],34),(6,[9,10,12,13,32],6),(6,[61],7),(6,[47],4),(6,[62],34),
 (7,[9,10,12,13,32],7),(7,[34],8),(7,[39],9),(7,[62],34),(8,[34],4),(9,[39],4),(10,[9,10,12,13,32],4),(10,[62],34),
 (11,[97],12),(11,[62],1),(12,[62],1),(13,[45],14),(13,[62],1),(14,[45],15),(14,[62],1),(15,[45],16),(16,[45],17),(17,[62],1),(17,[45],17),(18,[62],1)]
def qbh:List Step:=[
 (20,[34],21),(20,[39],22),(20,[96],23),(20,[47],24),(21,[34,10],20),(22,[39,10],20),(23,[96],20),(24,[47],25),(24,[42],26),(25,[10],20),(26,[42],27),
 (27,[47],20),(27,[42],27),(28,[34],29),(28,[39],30),(28,[47],31),(29,[34,10],28),(30,[39,10],28),(31,[42],32),(32,[42],33),(33,[47],28),(33,[42],33)]
def qek:List Nat:=[0,0,1,0,0,0,0,0,0,0,0,0,0,0,0,0,0,0,0,0,0,0,0,0,20,0,0,0,0,0,0,28,0,0]
def qe1:List Nat:=[0,0,0,0,5,0,5,10,0,0,0,18,0,18,18,0,15,15,0,0,0,0,0,0,0,0,0,26,0,0,0,0,0,32]
def qa2:List Bool:=[false,false,false,false,false,false,false,false,false,false,false,false,false,false,false,false,false,false,false,false,false,true,true,true,false,false,false,false,false,true,true,false,false,false]
def qd1:zU:=[116,105,116,108,101]
def qg0:zU:=[116,101,120,116,97,114,101,97]
def qcx:zU:=[115,99,114,105,112,116]
def qcz:zU:=[115,116,121,108,101]
def qny:List (zU×Nat):=[(qd1,19),(qg0,19),(qcx,20),(qcz,28)]
def qdu:List (zU×Bool×Int):=[([104,114,101,102],false,1),([115,114,99],false,1),([97,99,116,105,111,110],false,1),(qcz,false,2),([111,110],true,2)]
structure St where
 mode:Nat
 name:zU
 elem:zU
 kind:Int
 read:Nat
 esc:Bool
def hit(m:Nat)(b:UInt8)(r:Step):Bool:=decide (r.1=m) && among b r.2.1
def lookup(l:List Step)(m:Nat)(b:UInt8):Nat:=match l.find? (hit m b)with
 |some r=>r.2.2
 |none=>0
def qec(b:UInt8):UInt8:=if qbl b then 97 else b
def qc6(m:Nat)(b:UInt8):Nat:=if m<19 then lookup qbs m (qec b)else lookup qbh m (qec b)
def or3(a b c:Nat):Nat:=if a≠0 then a else if b≠0 then b else c
def qc8(n:zU)(b:UInt8):zU:=if n.length=9 then n else n++[small b]
def qaw(n:zU):zU:=if n=qd1\/n=qg0\/n=qcx\/n=qcz then n else[]
def qbc(n:zU)(r:zU×Bool×Int):Bool:=r.1==n || (r.2.1 && r.1.isPrefixOf n)
def qc1(n:zU):Int:=match qdu.find? (qbc n)with
 |some r=>r.2.2
 |none=>0
def qav(n:zU):Nat:=if n=qd1 then 19 else if n=qg0 then 19 else if n=qcx then 20 else if n=qcz then 28 else 1
def qad(n:zU):St:=if qav n=1 then⟨1,[],[],0,0,false⟩else⟨qav n,[],n,0,0,false⟩
def St.named(s:St):St:=⟨s.mode,[],if s.mode=3 then qaw s.name else s.elem,if s.mode=5 then qc1 s.name else s.kind,s.read,s.esc⟩
def St.led1(s:St)(tz:Nat)(b:UInt8):St:=
 if tz=3 then { s with mode:=tz,name:=qc8 s.name b }
 else if tz=5 then { s with mode:=tz,name:=qc8 s.name b,kind:=0 }
 else if tz=4\/tz=10 then { s with mode:=tz,kind:=0 }
 else if tz=34 then qad s.elem
 else { s with mode:=tz }
def St.led(s:St)(tz:Nat)(b:UInt8):St:=if tz=s.mode then s.led1 tz b else s.named.led1 tz b
def St.ending(s:St):zU:=60::47::s.elem
def qdl:zU:=[9,10,12,13,32,47,62]
def St.ends(s:St)(b:UInt8):Bool:=decide (s.read=s.ending.length) && among b qdl
def qc3(b:UInt8):Nat:=if b=62 then 1 else 12
def St.readEnd(s:St)(b:UInt8):Nat:=if s.ending[s.read]?=some (small b)then s.read+1 else if b=60 then 1 else 0
def qhm(m:Nat):Nat:=qek.getD m 0
def St.table2(s:St)(b:UInt8):St:=s.led (or3 (qc6 s.mode b) (qe1.getD s.mode 0) s.mode) b
def St.table(s:St)(b:UInt8):St:=if qc6 s.mode b=0/\qhm s.mode≠0 then({ s with mode:=qhm s.mode }:St).table2 b else s.table2 b
def St.quiet(s:St)(b:UInt8):St:=if qa2.getD s.mode false && (s.esc || b==92)then { s with esc:=!s.esc } else s.table b
def St.behind(s:St)(b:UInt8):St:=
 if 19<=s.mode then(if s.ends b then⟨qc3 b,[],[],0,0,false⟩else({ s with read:=s.readEnd b }:St).quiet b)else s.quiet b
def St.start:St:=⟨1,[],[],0,0,false⟩
def qje(n:zU):Prop:=n=[]\/n=qd1\/n=qg0\/n=qcx\/n=qcz
structure St.Ok(s:St):Prop where
 lo:1<=s.mode
 hi:s.mode<=33
 name:s.name.length<=9
 named:s.mode≠3->s.mode≠5->s.name=[]
 elem:qje s.elem
 bare:s.mode<4\/(10<s.mode/\s.mode<19)->s.elem=[]/\s.kind=0
 low:s.mode<19->s.read=0
 calm:qa2.getD s.mode false=false->s.esc=false
 read:s.read<=s.ending.length
 wrap:-3<=s.kind/\s.kind<=3
 high:19<=s.mode->s.elem≠[]/\s.kind=0
theorem qo9{α:Type}{l:List α}(f:α->Bool)(k:Nat)(x:α)(y:l[k]?=some x)(z:(l.take k).find? f=none)(h:f x=true):l.find? f=some x:=by
 obtain⟨D,rfl⟩:=yb.1 y;have e:l=l.take k++l[k]::l.drop (k+1):=by rw[<-yo D,yu]
 have e2:l.find? f=(l.take k++l[k]::l.drop (k+1)).find? f:=yE (List.find? f) e;rw[e2,List.find?_append,z,List.find?_cons_of_pos h];rfl
theorem qdb{α:Type}{l:List α}(f:α->Bool)(k:Nat)(x:α)(y:l[k]?=some x)(z:(l.take k).find? f=none)(h:f x=false):(l.take (k+1)).find? f=none:=by
 obtain⟨D,rfl⟩:=yb.1 y;rw[yB D,List.find?_append,z,List.find?_cons_of_neg (by simp[h])];rfl
theorem qf2(n:zU)(k:Nat)(x:zU×Bool×Int)(y:qdu[k]?=some x)(z:(qdu.take k).find? (qbc n)=none)(h:qbc n x=true):qc1 n=x.2.2:=by
 unfold qc1;rw[qo9 _ k x y z h]
theorem q1c(n:zU)(y:(qdu.take 5).find? (qbc n)=none):qc1 n=0:=by
 unfold qc1;rw[show qdu=qdu.take 5 from rfl,y]
def qbx(m:Nat)(b:UInt8):Nat:=if qc6 m b=0/\qhm m≠0 then qhm m else m
def qdg(m:Nat)(b:UInt8):Nat:=or3 (qc6 (qbx m b) b) (qe1.getD (qbx m b) 0) (qbx m b)
theorem qo8(s:St)(b:UInt8):s.table b=(St.mk (qbx s.mode b) s.name s.elem s.kind s.read s.esc).led (qdg s.mode b) b:=by
 unfold St.table St.table2 qdg qbx;by_cases h:qc6 s.mode b=0/\qhm s.mode≠0
 ·rw[if_pos h,if_pos h]
 ·rw[if_neg h,if_neg h]
def qr3(m:Nat)(b:UInt8):Bool:=
 let r:=qbx m b
 let t:=qdg m b
 decide (1<=r) && decide (r<=33) && decide (1<=t) && decide (t<=34)
 && (if m<19 then decide (r<19) && (decide (t<19) || decide (t=34))else decide (19<=r) && decide (19<=t) && decide (t<=33))
 && (decide (r=m) || (decide (m=2) && decide (r=1)) || decide (24<=m))
 && (if t=34 then decide (3<=m) && decide (m<=10)else true)
 && (if t=3 then decide (m=2) || decide (m=3)else true)
 && (if t=5 then decide (m=4) || decide (m=5) || decide (m=6)else true)
 && (if t=4\/(6<=t/\t<=10)then decide (3<=m) && decide (m<=10)else true)
 && (if t=1\/t=2\/(11<=t/\t<=18)then decide (m=1) || decide (m=2) || (decide (11<=m) && decide (m<=18))else true)
def named:zU:=[9,10,12,13,32,33,34,39,42,45,47,60,61,62,96,97]
def cls(b:UInt8):UInt8:=if among (qec b) named then qec b else 0
theorem qho{b:UInt8}{l:zU}:among b l=true↔b∈l:=by
 unfold among;rw[List.any_eq_true];constructor
 ·rintro⟨x,y,e⟩
  rw[yF]at e;exact e▸y
 ·intro h
  exact⟨b,h,by simp⟩
theorem ql1(b:UInt8):cls b∈0::named:=by
 unfold cls;split
 ·rename_i h
  exact yX _ (qho.1 h)
 ·exact xo
theorem qzf(b:UInt8):qec (cls b)=cls b:=by
 have:∀c∈(0::named:zU),qec c=c:=by decide
 exact this _ (ql1 b)
theorem qzj(b:UInt8)(l:zU)(y:l.all (fun c=>among c named)=true):among (qec b) l=among (cls b) l:=by
 unfold cls;split
 ·rfl
 ·rename_i h
  rw[xh,qho,qho];constructor
  ·intro z
   exact absurd (yW.1 y _ z) h
  ·intro D
   exact absurd (yW.1 y _ D) (by decide)
theorem qnu{α:Type}{f g:α->Bool}:∀(l:List α),(∀x∈l,f x=g x)->l.find? f=l.find? g
 |[],_=>rfl
 |x::l,h=>by
   rw[List.find?_cons,List.find?_cons,h x xo,qnu l (fun y z=>h y (yX _ z))]
theorem qs5(m:Nat)(b:UInt8)(l:List Step)(y:l.all (fun r=>r.2.1.all (fun c=>among c named))=true):lookup l m (qec b)=lookup l m (qec (cls b)):=by
 unfold lookup;rw[qzf,qnu l];intro r z;unfold hit;rw[qzj b r.2.1 (yW.1 y r z)]
theorem qsj(m:Nat)(b:UInt8):qc6 m b=qc6 m (cls b):=by
 unfold qc6;rw[qs5 m b qbs (by decide +kernel),qs5 m b qbh (by decide +kernel)]
theorem qnk(m:Nat)(b:UInt8):qbx m b=qbx m (cls b):=by unfold qbx;rw[qsj]
theorem qxn(m:Nat)(b:UInt8):qdg m b=qdg m (cls b):=by unfold qdg;rw[qnk,qsj]
theorem q7x(m:Nat)(b:UInt8):qr3 m b=qr3 m (cls b):=by
 unfold qr3;rw[qnk,qxn]
theorem q7w:((List.range 34).all fun m=>m==0 || (0::named).all fun c=>qr3 m c)=true:=by decide +kernel
theorem qqa(m:Nat)(y:1<=m)(z:m<=33)(b:UInt8):qr3 m b=true:=by
 rw[q7x];have:=(yW.1 q7w) m (xg.2 (by omega));simp only[yU,yF]at this;rcases this with h|h
 ·omega
 ·exact yW.1 h _ (ql1 b)
def hexB:zU:=[48,49,50,51,52,53,54,55,56,57,97,98,99,100,101,102,65,66,67,68,69,70]
def qfd:List (Nat×Nat×zU×Int):=[(21,23,[120],2),(21,23,[117],4),(29,30,hexB,5)]
structure Mk where
 ref:Bool
 hex:Int
 pct:Int
 far:Int
def Mk.none:Mk:=⟨false,0,0,0⟩
structure Sx where
 st:St
 ma:Mk
def qds(left:Int)(b:UInt8):Int:=if 0<left/\among b hexB=true then left - 1 else 0
def qxy(b:UInt8):Bool:=qbl b || (qea b || b==35)
def qa0(m:Nat):Int:=if m=1\/m=19\/m=8\/m=9 then 1 else if m=21\/m=22 then 4 else if m=29\/m=30 then 5 else 0
def qb4(kind:Int)(m:Nat):Bool:=kind==1 && (m==8 || m==9)
def qhz:zU:=[47,63,35,58]
def qcd(kind:Int)(m:Nat)(far:Int)(b:UInt8):Bool:=b==58 && (qb4 kind m && far==2)
def qdt(kind:Int)(m:Nat)(far:Int)(b:UInt8):Int:=if qcd kind m far b=true then 2 else if among b qhz=true then 3 else if far=0 then 1 else far
def qch(kind:Int)(m:Nat)(k:Mk)(b:UInt8):Mk:=
 ⟨if qa0 m=1 then b==38 || (k.ref && qxy b)else false,qds k.hex b,if qb4 kind m=true then(if b=37 then 2 else qds k.pct b)else 0,if qb4 kind m=true then qdt kind m k.far b else 0⟩
def qdp(m:Nat)(b:UInt8)(r:Nat×Nat×zU×Int):Bool:=decide (r.1<=m) && (decide (m<=r.2.1) && among b r.2.2.1)
def qa7(m:Nat)(esc:Bool)(b:UInt8):Mk:=if esc=false then Mk.none else match qfd.find? (qdp m b)with
 |some r=>⟨false,r.2.2.2,0,0⟩
 |Option.none=>Mk.none
def qms(s:St)(k:Mk)(t:Nat)(b:UInt8):Mk:=if t=s.mode/\t≠34 then qch s.kind s.mode k b else Mk.none
def Sx.led(x:Sx)(t:Nat)(b:UInt8):Sx:=⟨x.st.led t b,qms x.st x.ma t b⟩
def qls(s:St)(k:Mk)(b:UInt8):Mk:=if(qa2.getD s.mode false && (s.esc || b==92))=true then qa7 s.mode s.esc b else qms ⟨qbx s.mode b,s.name,s.elem,s.kind,s.read,s.esc⟩ k (qdg s.mode b) b
def qe8(s:St)(k:Mk)(b:UInt8):Mk:=if 19<=s.mode/\s.ends b=true then Mk.none else qls s k b
def Sx.behind(x:Sx)(b:UInt8):Sx:=⟨x.st.behind b,qe8 x.st x.ma b⟩
def Sx.start:Sx:=⟨St.start,Mk.none⟩
def qax(x:Sx)(l:zU):Sx:=l.foldl Sx.behind x
theorem qp5(x:Sx)(l:zU)(b:UInt8):qax x (l++[b])=(qax x l).behind b:=by simp[qax]
end Pl
variable{w w':World}{g:Nat}{l:List Value}
def bs(l:zU):Value:=.string ⟨l.toArray⟩
def qjj(l:List Step):List Value:=l.flatMap fun r=>[zJ (r.1:Int),bs r.2.1,zJ (r.2.2:Int)]
def qih(l:List Nat):List Value:=l.map fun(m:Nat)=>Value.int .u8 ((m:Nat):Int)
def qm4(l:List Bool):List Value:=l.map fun m=>.bool m
def qra:List Value:=qny.flatMap fun r=>[bs r.1,zJ (r.2:Int)]
def qqw:List Value:=qfd.flatMap fun r=>[zJ (r.1:Int),zJ (r.2.1:Int),bs r.2.2.1,zI r.2.2.2]
def qrq:List Value:=qdu.flatMap fun r=>[bs r.1,.bool r.2.1,zI r.2.2]
def Lies(w:World)(g:Nat)(l:List Value):Prop:=∀(j:Nat) (v:Value),l[j]?=some v->w.cell? (zO g j)=some v
theorem Lies.lt(h:Lies w g l)(y:0<l.length):g<w.heap.size:=by
 have:=h 0 l[0] (by simp[y]);rcases Nat.lt_or_ge g w.heap.size with z|z
 ·exact z
 ·simp[World.cell?,Array.getElem?_eq_none z]at this
theorem Lies.kept{B:Nat}(h:Lies w g l)(y:Below B w w')(z:g<B):Lies w' g l:=fun j v D=>(y.cell (p:=zO g j) z).trans (h j v D)
structure PTabs(w:World):Prop where
 mt:Lies w 4 (qjj qbs)
 ct:Lies w 5 (qjj qbh)
 rd:Lies w 1 (qih qek)
 ot:Lies w 2 (qih qe1)
 es:Lies w 0 (qm4 qa2)
 el:Lies w 6 qra
 at':Lies w 10 qrq
 le:Lies w 3 qqw
theorem PTabs.lt(h:PTabs w):4<w.heap.size/\5<w.heap.size/\1<w.heap.size/\2<w.heap.size/\0<w.heap.size/\6<w.heap.size/\10<w.heap.size/\3<w.heap.size:=
 ⟨h.mt.lt (by decide),h.ct.lt (by decide),h.rd.lt (by decide),h.ot.lt (by decide),h.es.lt (by decide),h.el.lt (by decide),h.at'.lt (by decide),h.le.lt (by decide)⟩
theorem PTabs.kept(h:PTabs w)(y:zW w w'):PTabs w':=by
 obtain⟨z,D,I,J,O,T,U,V⟩:=h.lt;exact⟨h.mt.kept y z,h.ct.kept y D,h.rd.kept y I,h.ot.kept y J,h.es.kept y O,h.el.kept y T,h.at'.kept y U,h.le.kept y V⟩
theorem PTabs.kept'{w0:World}(h:PTabs w)(y:PTabs w0)(z:Below w0.heap.size w w'):PTabs w':=by
 obtain⟨D,I,J,O,T,U,V,X⟩:=y.lt;exact⟨h.mt.kept z D,h.ct.kept z I,h.rd.kept z J,h.ot.kept z O,h.es.kept z T,h.el.kept z U,h.at'.kept z V,h.le.kept z X⟩
theorem PTabs.alloc(h:PTabs w)(o:Obj):PTabs (w.alloc o):=h.kept ((xL _ w).alloc (yg _) o)
theorem PTabs.drew(h:PTabs w):PTabs w.drew:=⟨h.mt,h.ct,h.rd,h.ot,h.es,h.el,h.at',h.le⟩
theorem PTabs.drewN(h:PTabs w)(n:Nat):PTabs (w.drewN n):=⟨h.mt,h.ct,h.rd,h.ot,h.es,h.el,h.at',h.le⟩
theorem zf2{α:Type}(f:α->Value)(g:α->Value)(h:α->Value):∀(l:List α) (k:Nat) (x:α),l[k]?=some x ->
  (l.flatMap fun r=>[f r,g r,h r])[3*k]?=some (f x)/\(l.flatMap fun r=>[f r,g r,h r])[3*k+1]?=some (g x)/\(l.flatMap fun r=>[f r,g r,h r])[3*k+2]?=some (h x)
 |[],k,x,e=>by simp at e
 |y::l,0,x,e=>by
   simp only[yS,Option.some.injEq]at e;subst e;exact⟨rfl,rfl,rfl⟩
 |y::l,k+1,x,e=>by
   have:=zf2 f g h l k x (by simpa using e);simp only[List.flatMap_cons,show 3*(k+1)=3*k+3 by omega];exact this
theorem zf3{α:Type}(f:α->Value)(g:α->Value):∀(l:List α) (k:Nat) (x:α),l[k]?=some x ->
  (l.flatMap fun r=>[f r,g r])[2*k]?=some (f x)/\(l.flatMap fun r=>[f r,g r])[2*k+1]?=some (g x)
 |[],k,x,e=>by simp at e
 |y::l,0,x,e=>by
   simp only[yS,Option.some.injEq]at e;subst e;exact⟨rfl,rfl⟩
 |y::l,k+1,x,e=>by
   have:=zf3 f g l k x (by simpa using e);simp only[List.flatMap_cons,show 2*(k+1)=2*k+2 by omega];exact this
theorem q2n{l:List Step}(h:Lies w g (qjj l))(k:Nat)(r:Step)(y:l[k]?=some r) :
  w.cell? (zO g (k*3))=some (zJ (r.1:Int))/\w.cell? (zO g (k*3+1))=some (bs r.2.1)/\w.cell? (zO g (k*3+2))=some (zJ (r.2.2:Int)):=by
 obtain⟨a,b,c⟩:=zf2 (fun r:Step=>Value.int .u8 (r.1:Int)) (fun r=>bs r.2.1) (fun r=>zJ (r.2.2:Int)) l k r y;rw[Nat.mul_comm k 3];exact⟨h _ _ a,h _ _ b,h _ _ c⟩
theorem qe7(h:Lies w 6 qra)(k:Nat)(r:zU×Nat)(y:qny[k]?=some r) :
  w.cell? (zO 6 (2*k))=some (bs r.1)/\w.cell? (zO 6 (2*k+1))=some (zJ (r.2:Int)):=by
 obtain⟨a,b⟩:=zf3 (fun r:zU×Nat=>bs r.1) (fun r=>Value.int .u8 (r.2:Int)) qny k r y;exact⟨h _ _ a,h _ _ b⟩
theorem qm6(h:Lies w 10 qrq)(k:Nat)(r:zU×Bool×Int)(y:qdu[k]?=some r) :
  w.cell? (zO 10 (3*k))=some (bs r.1)/\w.cell? (zO 10 (3*k+1))=some (.bool r.2.1)/\w.cell? (zO 10 (3*k+2))=some (zI r.2.2):=by
 obtain⟨a,b,c⟩:=zf2 (fun r:zU×Bool×Int=>bs r.1) (fun r=>Value.bool r.2.1) (fun r=>zI r.2.2) qdu k r y;exact⟨h _ _ a,h _ _ b,h _ _ c⟩
theorem zhj{α:Type}(f:α->Value)(g:α->Value)(h:α->Value)(i:α->Value):∀(l:List α) (k:Nat) (x:α),l[k]?=some x ->
  (l.flatMap fun r=>[f r,g r,h r,i r])[4*k]?=some (f x)/\(l.flatMap fun r=>[f r,g r,h r,i r])[4*k+1]?=some (g x)/\(l.flatMap fun r=>[f r,g r,h r,i r])[4*k+2]?=some (h x)/\(l.flatMap fun r=>[f r,g r,h r,i r])[4*k+3]?=some (i x)
 |[],k,x,e=>by simp at e
 |y::l,0,x,e=>by
   simp only[yS,Option.some.injEq]at e;subst e;exact⟨rfl,rfl,rfl,rfl⟩
 |y::l,k+1,x,e=>by
   have:=zhj f g h i l k x (by simpa using e);simp only[List.flatMap_cons,show 4*(k+1)=4*k+4 by omega];exact this
theorem zcc(h:Lies w 3 qqw)(k:Nat)(r:Nat×Nat×zU×Int)(y:qfd[k]?=some r) :
  w.cell? (zO 3 (4*k))=some (zJ (r.1:Int))/\w.cell? (zO 3 (4*k+1))=some (zJ (r.2.1:Int))/\w.cell? (zO 3 (4*k+2))=some (bs r.2.2.1)/\w.cell? (zO 3 (4*k+3))=some (zI r.2.2.2):=by
 obtain⟨a,b,c,d⟩:=zhj (fun r:Nat×Nat×zU×Int=>Value.int .u8 (r.1:Int)) (fun r=>zJ (r.2.1:Int)) (fun r=>bs r.2.2.1) (fun r=>zI r.2.2.2) qfd k r y;exact⟨h _ _ a,h _ _ b,h _ _ c,h _ _ d⟩
theorem qu4{l:List Nat}(h:Lies w g (qih l))(k:Nat)(y:k<l.length):w.cell? (zO g k)=some (zJ ((l.getD k 0:Nat):Int)):=by
 refine h _ _ ?_;simp[qih,List.getElem?_map,List.getElem?_eq_getElem y,List.getD_eq_getElem?_getD]
theorem zdn{l:List Bool}(h:Lies w g (qm4 l))(k:Nat)(y:k<l.length):w.cell? (zO g k)=some (.bool (l.getD k false)):=by
 refine h _ _ ?_;simp[qm4,List.getElem?_map,List.getElem?_eq_getElem y,List.getD_eq_getElem?_getD]
theorem al{α:Type}{L:List α}{C:Nat->α->Prop}(h:∀j v,L[j]?=some v->C j v):∀j (y:j<L.length),C j L[j]:=fun j y=>h j _ (yc y)
theorem cm{P:Program}{f:FuncId}{a:Array Value}{w:World}{E:Ending}{Q:Ending->World->Prop}(h:Calls P f a w fun e w'=>e=E/\w=w')(k:Q E w):Calls P f a w Q:=h.mono fun _ _ ⟨y,z⟩=>y▸z▸k
theorem qas{a b:Bool}(h:a=b):Ending.returned (.bool a)=.returned (.bool b):=by rw[h]
theorem qal{k:IntKind}{a b:Int}(h:a=b):Ending.returned (.int k a)=.returned (.int k b):=by rw[h]
theorem qcl{a b:zT}(h:a=b):Ending.returned (.string a)=.returned (.string b):=by rw[h]
theorem zat(b:UInt8)(s:zT)(w:World)(z:s.size<=1000000000) :
  zC 80 #[zJ b.toNat,.string s] w (zQ (.bool (among b s.data.toList)) w):=by
 go_enter func80,ntmps80
 go_wp2
 go_loop [4,5] (fun r i=>r=.bool false/\∃k:Nat,k<=s.size/\i=zI k/\among b (s.data.toList.take k)=false) (fun _ i=>s.size - (intOf i).toNat)
 case atStart=>exact⟨rfl,0,yH _,rfl,rfl⟩
 case round=>
  obtain⟨rfl,k,D,rfl,I⟩:=hrel;have J:Hid (among b (s.data.toList.take k)=false):=I;clear I;by_cases y:k<s.size
  ·go_wp2
   ·go_ret
    exact⟨qas (zar b s k y ‹_›).symm,rfl⟩
   ·go_round
    case rel=>exact⟨rfl,k+1,by omega,by go_num,q6u b s k y J.out ‹_›⟩
    case measure=>simp[intOf];omega
  ·go_wp2
   go_ret
   exact⟨qas (zas b s k y J.out).symm,rfl⟩
theorem qps(b:UInt8)(w:World) :
  zC 181 #[zJ b.toNat] w (zQ (.bool (qh5 b)) w):=by
 by_cases y:65<=b.toNat<;>by_cases z:b.toNat<=90
 all_goals
  have H:Hid (qh5 b=_):=show qh5 b=(decide (65<=b.toNat) && decide (b.toNat<=90))from rfl;go_enter func181,ntmps181
  go_wp2
  all_goals
   go_ret
   exact⟨qas (by rw[H.out];simp[y,z]<;>omega),rfl⟩
theorem qde(b:UInt8)(w:World) :
  zC 102 #[zJ b.toNat] w (zQ (.bool (qea b)) w):=by
 by_cases y:48<=b.toNat<;>by_cases z:b.toNat<=57
 all_goals
  have H:Hid (qea b=_):=show qea b=(decide (48<=b.toNat) && decide (b.toNat<=57))from rfl;go_enter func102,ntmps102
  go_wp2
  all_goals
   go_ret
   exact⟨qas (by rw[H.out];simp[y,z]<;>omega),rfl⟩
theorem add8(b:UInt8)(h:b.toNat<=90):((b+32).toNat:Int)=b.toNat+32:=by
 rw[UInt8.toNat_add];simp;omega
theorem qg7(b:UInt8)(w:World) :
  zC 101 #[zJ b.toNat] w (zQ (zJ (small b).toNat) w):=by
 by_cases y:65<=b.toNat<;>by_cases z:b.toNat<=90
 all_goals
  have H:Hid (small b=_):=show small b=(if(decide (65<=b.toNat) && decide (b.toNat<=90))=true then b+32 else b)from rfl;go_enter func101,ntmps101
  go_wp2
  all_goals
   go_ret
   exact⟨qal (by rw[H.out];simp only[y,z,decide_true,decide_false,Bool.and_true,Bool.and_false,Bool.and_self,if_true,Bool.false_eq_true,if_false]<;>exact(add8 b z).symm),rfl⟩
theorem qby(b:UInt8)(w:World) :
  zC 132 #[zJ b.toNat] w (zQ (.bool (qbl b)) w):=by
 by_cases y:97<=b.toNat<;>by_cases z:b.toNat<=122
 all_goals
  have H:Hid (qbl b=_):=show qbl b=((decide (97<=b.toNat) && decide (b.toNat<=122)) || qh5 b)from rfl;go_enter func132,ntmps132
  go_wp2_with (go_at_call 181;refine cm (qps b _) ?_)
  all_goals
   go_ret
   exact⟨qas (by rw[H.out];simp[y,z]<;>omega),rfl⟩
theorem qe5(s:zT)(k:Nat)(h:k<s.size):s.data.toList[k]?=some s[k]:=by
 rw[yc (by simpa using h)];rfl
namespace Pl
def qag:zU:=[9,10,12,13,32]
def qdq:zU:=[9,12,13,32]
def qc2(b:UInt8):Bool:=b==95 || (qea b || (decide (97<=b.toNat) && decide (b.toNat<=122)))
def qa4(l:zU):Bool:=!l.isEmpty && (decide (l.length<=8) && l.all qc2)
def isNm(l:zU):Bool:=l==[46] || (decide ((Go.Lib.split l [46]).length<=4) && (Go.Lib.split l [46]).all qa4)
structure Tg where
 kind:Nat
 slip:Nat
 name:zU
 op:zU
 cl:zU
def qay:zU->Nat
 |[]=>2
 |b::_=>if b=33 then 7 else if b=61 then 8 else if b=35 then 3 else if b=94 then 4 else if b=47 then 5 else if b=62 then 6 else 2
def qcc(kind:Nat)(n:zU):Tg:=if(if kind=6 then qa4 n else isNm n)=true then⟨kind,0,n,[],[]⟩else⟨kind,3,[],[],[]⟩
def qbo:zU->zU->List zU
 |cur,[]=>if cur=[]then[]else[cur]
 |cur,b::l=>if among b qag=true then(if cur=[]then qbo [] l else cur::qbo [] l)else qbo (cur++[b]) l
def qfy(l:zU):List zU:=qbo [] l
def qeb(l:zU):Bool:=decide (l.length<=3) && !(among 61 l)
def qdc(c:zU):Tg:=
 if Go.Lib.hasSuffix (c.drop 1) [61]=false then⟨8,4,[],[],[]⟩else
 match qfy (Go.Lib.trimSuffix (c.drop 1) [61])with
 |[a,b]=>if qeb a=true/\qeb b=true then⟨8,0,[],a,b⟩else⟨8,4,[],[],[]⟩
 |_=>⟨8,4,[],[],[]⟩
def qba(c:zU):Tg:=
 if qay c=7 then⟨7,0,[],[],[]⟩else if qay c=8 then qdc c else if qay c=2 then qcc 2 c
 else qcc (qay c) (Go.Lib.trimLeftS (c.drop 1) qag)
structure Pt where
 kind:Nat
 pos:Nat
 text:zU
 mate:Nat
structure Ct where
 op:zU
 cl:zU
 parts:List Pt
 opened:List Nat
def qel(t:zU)(a z:Nat):Nat×Nat:=
 if(Go.Lib.trimRightS (t.take a) qdq).getLast?.any (·!= 10) || (Go.Lib.trimLeftS (t.drop z) qdq).head?.any (·!= 10)then(a,z)
 else((Go.Lib.trimRightS (t.take a) qdq).length,t.length - (Go.Lib.trimPrefix (Go.Lib.trimLeftS (t.drop z) qdq) [10]).length)
def Ct.addText(c:Ct)(t:zU)(a z:Nat):Ct:=if a<z then { c with parts:=c.parts++[⟨1,a,(t.drop a).take (z - a),0⟩] } else c
def qbd(l:List Pt)(m n:Nat):List Pt:=l.modify m fun p=>{ p with mate:=n }
def qmg(l:List Pt)(m:Nat):zU:=match l[m]? with
 |some p=>p.text
 |none=>[]
def qk2(l:List Pt)(m:Nat):Nat:=match l[m]? with
 |some p=>p.pos
 |none=>0
def Ct.take(c:Ct)(one:Tg)(a:Nat):Nat×Ct:=
 if one.slip≠0 then(one.slip,c)
 else if one.kind=7 then(0,c)
 else if one.kind=8 then(0,{ c with op:=one.op,cl:=one.cl })
 else if one.kind=3\/one.kind=4 then
  (if c.opened.length=6 then(8,c)else(0,{ c with parts:=c.parts++[⟨one.kind,a,one.name,0⟩],opened:=c.opened++[c.parts.length] }))
 else if one.kind=5 then
  (match c.opened.getLast? with
   |none=>(5,c)
   | some m=>if qmg c.parts m≠one.name then(6,c) else(0,{ c with parts:=qbd c.parts m c.parts.length++[⟨5,a,one.name,m⟩],opened:=c.opened.dropLast }))
 else(0,{ c with parts:=c.parts++[⟨one.kind,a,one.name,0⟩] })
def Ct.left(c:Ct):Nat×Nat:=match c.opened.getLast? with
 |none=>(0,0)
 |some m=>(7,qk2 c.parts m)
inductive Tagged where
 |slip (kind pos:Nat)
 |over (c:Ct)
 |next (c:Ct) (a:Nat)
def Ct.step(c:Ct)(t:zU)(a:Nat):Tagged:=
 if(Go.Lib.cut (t.drop a) c.op).2.2=false then .over (c.addText t a t.length)
 else
  let at_:=a+(Go.Lib.cut (t.drop a) c.op).1.length
  let rest:=(Go.Lib.cut (t.drop a) c.op).2.1
  if(Go.Lib.cut rest c.cl).2.2=false then .slip 2 at_
  else
   let inner:=(Go.Lib.cut rest c.cl).1
   let tz:=at_+c.op.length+inner.length+c.cl.length
   let one:=qba (Go.Lib.trimS inner qag)
   let o:=if one.kind≠2 then qel t at_ tz else(at_,tz)
   let r:=(c.addText t a o.1).take one at_
   if r.1≠0 then .slip r.1 at_ else .next r.2 o.2
def Ct.go(t:zU):Nat->Ct->Nat->(Nat×Nat)×List Pt
 |0,_,_=>((0,0),[])
 |n+1,c,a=>match c.step t a with
   |.slip k p=>((k,p),[])
   |.over d=>(d.left,d.parts)
   |.next d b=>Ct.go t n d b
def Ct.start:Ct:=⟨[123,123],[125,125],[],[]⟩
def qam(t:zU):(Nat×Nat)×List Pt:=if 2000<t.length then((1,0),[])else
 if(Ct.go t (t.length+1) Ct.start 0).1.1=0 then((0,0),(Ct.go t (t.length+1) Ct.start 0).2)else((Ct.go t (t.length+1) Ct.start 0).1,[])
variable{o:Nat}{l:List Pt}{st:List Nat}
inductive Wf:Nat->List Pt->Prop
 |nil (o:Nat):Wf o []
 |leaf (o:Nat) (p:Pt) (l:List Pt):(p.kind=1\/p.kind=2\/p.kind=6)->Wf (o+1) l->Wf o (p::l)
 |sec (o:Nat) (p q:Pt) (b l:List Pt):(p.kind=3\/p.kind=4)->q.kind=5->p.mate=o+1+b.length->q.mate=o->Wf (o+1) b->Wf (o+b.length+2) l->Wf o (p::b++q::l)
inductive WfO:List Pt->List Nat->Prop
 |done (l:List Pt):Wf 0 l->WfO l []
 |opn (l:List Pt) (p:Pt) (m:List Pt) (st:List Nat):WfO l st->(p.kind=3\/p.kind=4)->Wf (l.length+1) m->WfO (l++p::m) (st++[l.length])
theorem Wf.append{m:List Pt}(h:Wf o l)(y:Wf (o+l.length) m):Wf o (l++m):=by
 induction h with
 |nil o=>simpa using y
 |leaf o p l hk _ ih=>
   refine .leaf o p _ hk (ih ?_);simpa [Nat.add_assoc,Nat.add_comm,Nat.add_left_comm]using y
 |sec o p q b l hp hq h1 h2 hb _ _ ih=>
   have e:p::b++q::l++m=p::b++q::(l++m):=by simp
   rw[e];refine .sec o p q b _ hp hq h1 h2 hb (ih ?_);simpa [Nat.add_assoc,Nat.add_comm,Nat.add_left_comm]using y
theorem Wf.one(p:Pt)(y:p.kind=1\/p.kind=2\/p.kind=6):Wf o [p]:=.leaf o p [] y (.nil _)
theorem WfO.snoc(h:WfO l st)(p:Pt)(y:p.kind=1\/p.kind=2\/p.kind=6):WfO (l++[p]) st:=by
 cases h with
 |done l h=>exact .done _ (h.append (.one p y))
 |opn l q m st h hq hm=>
   have e:l++q::m++[p]=l++q::(m++[p]):=by simp
   rw[e];exact .opn l q _ st h hq (hm.append (.one p y))
theorem WfO.push(h:WfO l st)(p:Pt)(y:p.kind=3\/p.kind=4):WfO (l++[p]) (st++[l.length]):=.opn l p [] st h y (.nil _)
theorem q0g(l:List Pt)(p:Pt)(m:List Pt)(n:Nat):qbd (l++p::m) l.length n=l++{ p with mate:=n }::m:=by
 unfold qbd
 induction l with
 |nil=>rfl
 |cons x l ih=>simpa using ih
theorem WfO.last(h:WfO l st)(m:Nat)(y:st.getLast?=some m) :
  ∃(a:List Pt) (p:Pt) (b:List Pt),l=a++p::b/\m=a.length/\(p.kind=3\/p.kind=4)/\Wf (a.length+1) b/\WfO a st.dropLast:=by
 cases h with
 |done l h=>simp at y
 |opn l q m' st h hq hb=>
   rw[List.getLast?_concat]at y;refine⟨l,q,m',rfl,(yk y).symm,hq,hb,?_⟩;rw[List.dropLast_concat];exact h
theorem WfO.pop(h:WfO l st)(m:Nat)(O:st.getLast?=some m)(q:Pt)(T:q.kind=5)(D:q.mate=m):WfO (qbd l m l.length++[q]) st.dropLast:=by
 obtain⟨a,p,b,rfl,rfl,U,V,X⟩:=h.last m O;have W:∀(p':Pt),(p'.kind=3\/p'.kind=4)->p'.mate=(a++p::b).length->∀o,o=a.length->Wf o (p'::b++[q]):=by
  rintro p' Y I o rfl;refine .sec _ p' q b [] Y T ?_ D V (.nil _);rw[I];simp;omega
 rw[q0g];generalize Z:({ p with mate:=(a++p::b).length }:Pt)=p';have y:p'.kind=3\/p'.kind=4:=by subst Z;exact U
 have z:p'.mate=(a++p::b).length:=by subst Z;rfl
 have e:a++p'::b++[q]=a++(p'::b++[q]):=by simp
 rw[e];generalize J:st.dropLast=st' at X;clear Z J O h;cases X with
 |done a X=>exact .done _ (X.append (W p' y z _ (xf _)))
 |opn l' q' m' st' X hq' hb'=>
   have e2:l'++q'::m'++(p'::b++[q])=l'++q'::(m'++(p'::b++[q])):=by simp
   rw[e2];exact .opn l' q' _ st' X hq' (hb'.append (W p' y z _ (by simp;omega)))
theorem WfO.lt(h:WfO l st):∀m∈st,m<l.length:=by
 induction h with
 |done l _=>intro m y;cases y
 |opn l p b st _ _ _ ih=>
   intro m y;rcases yn.1 y with h|h
   ·have:=ih m h;simp;omega
   ·simp at h;subst h;simp
variable{c:Ct}{a:Nat}
theorem zac{b:Bool}(h:¬b=false):b=true:=by cases b<;>simp_all
theorem qj8(s x:zU)(h:(Go.Lib.cut s x).2.2=true):∃i:Nat,Go.Lib.index s x=i/\i+x.length<=s.length/\(Go.Lib.cut s x).1=s.take i/\(Go.Lib.cut s x).2.1=s.drop (i+x.length)/\(Go.Lib.cut s x).1.length=i:=by
 unfold Go.Lib.cut at h |-;by_cases y:0<=Go.Lib.index s x
 ·have z:=Go.Lib.index_room s x y
  rw[if_pos y];refine⟨(Go.Lib.index s x).toNat,by omega,by omega,rfl,rfl,?_⟩;simp only[yP];omega
 ·rw[if_neg y]at h;cases h
theorem qld{α:Type}(f:α->Bool)(l:List α):(l.dropWhile f).length<=l.length:=(List.dropWhile_sublist f).length_le
theorem qmd(l cs:zU):(Go.Lib.trimRightS l cs).length<=l.length:=by
 unfold Go.Lib.trimRightS;have:=qld (cs.contains ·) l.reverse;simpa using this
theorem qiq(l cs:zU):(Go.Lib.trimLeftS l cs).length<=l.length:=qld _ _
theorem q2l(l p:zU):(Go.Lib.trimPrefix l p).length<=l.length:=by
 unfold Go.Lib.trimPrefix;split<;>simp
theorem qqx(t:zU)(a z:Nat)(h:a<=t.length)(y:z<=t.length):(qel t a z).1<=a/\z<=(qel t a z).2/\(qel t a z).2<=t.length:=by
 unfold qel;split
 ·exact⟨yg _,yg _,y⟩
 ·have D:=qmd (t.take a) qdq
  have I:=q2l (Go.Lib.trimLeftS (t.drop z) qdq) [10];have J:=qiq (t.drop z) qdq;rw[yP]at D;rw[yM]at J;refine⟨?_,?_,?_⟩<;>simp only<;>omega
theorem qsa(l:zU):∀cur,∀x∈qbo cur l,x≠[]:=by
 induction l with
 |nil=>intro cur x y;unfold qbo at y;split at y<;>simp_all
 |cons b l ih=>
   intro cur x y;unfold qbo at y;split at y
   ·split at y
    ·exact ih _ x y
    ·rcases xt.1 y with rfl | y
     ·assumption
     ·exact ih _ x y
   ·exact ih _ x y
structure TgOk(one:Tg):Prop where
 kind:2<=one.kind/\one.kind<=8
 op:one.kind=8->one.slip=0->(1<=one.op.length/\one.op.length<=3)/\1<=one.cl.length/\one.cl.length<=3
theorem qxp(c:zU):2<=qay c/\qay c<=8:=by
 unfold qay;split
 ·omega
 ·repeat' split
  all_goals omega
theorem qys{l:zU}(h:l≠[]):1<=l.length:=by
 cases l with
 |nil=>exact absurd rfl h
 |cons b l=>simp
theorem q8a(c:zU):TgOk (qdc c):=by
 unfold qdc;split
 ·exact⟨by simp,fun _ h=>by cases h⟩
 ·split
  ·rename_i a b y
   have z:=qsa _ _ a (by show a∈qfy _;rw[y];simp);have D:=qsa _ _ b (by show b∈qfy _;rw[y];simp);split
   ·rename_i hd
    obtain⟨d1,d2⟩:=hd;unfold qeb at d1 d2;simp only[yL,yN]at d1 d2;exact⟨by simp,fun _ _=>⟨⟨qys z,d1.1⟩,qys D,d2.1⟩⟩
   ·exact⟨by simp,fun _ h=>by cases h⟩
  ·exact⟨by simp,fun _ h=>by cases h⟩
theorem qs1(k:Nat)(n:zU)(h:2<=k/\k<8):TgOk (qcc k n):=by
 unfold qcc;split<;>split<;>exact⟨by simp;omega,fun e=>by simp at e;omega⟩
theorem qqh(c:zU):TgOk (qba c):=by
 have y:=qxp c;unfold qba;split
 ·exact⟨by simp,fun h=>by cases h⟩
 ·split
  ·exact q8a c
  ·split
   ·exact qs1 _ _ (by omega)
   ·exact qs1 _ _ (by omega)
structure CtOk(t:zU)(c:Ct)(a:Nat):Prop where
 op:1<=c.op.length/\c.op.length<=3
 cl:1<=c.cl.length/\c.cl.length<=3
 le:a<=t.length
 few:c.parts.length<=a
 six:c.opened.length<=6
 wf:WfO c.parts c.opened
theorem qik(t:zU):CtOk t Ct.start 0:=⟨by decide,by decide,yH _,by decide,by decide,.done _ (.nil _)⟩
theorem qin{t:zU}(h:CtOk t c a)(z n:Nat)(y:a<=n)(D:z<=n)(I:n<=t.length):CtOk t (c.addText t a z) n:=by
 unfold Ct.addText;split
 ·rename_i q
  have:=h.few;exact⟨h.op,h.cl,I,by simp;omega,h.six,h.wf.snoc _ (.inl rfl)⟩
 ·exact⟨h.op,h.cl,I,yh h.few y,h.six,h.wf⟩
theorem qit(l:List Pt)(m n:Nat):(qbd l m n).length=l.length:=by simp[qbd]
theorem zad{t:zU}(h:CtOk t c a)(one:Tg)(y:TgOk one)(p n:Nat)(z:a+1<=n)(D:n<=t.length)(I:(c.take one p).1=0):CtOk t (c.take one p).2 n:=by
 unfold Ct.take at I |-;have J:=h.few;by_cases O:one.slip≠0
 ·rw[if_pos O]at I;exact absurd I O
 rw[if_neg O]at I |-;have O:one.slip=0:=by omega
 by_cases T:one.kind=7
 ·rw[if_pos T];exact⟨h.op,h.cl,D,by show c.parts.length<=_;omega,h.six,h.wf⟩
 rw[if_neg T]at I |-;by_cases U:one.kind=8
 ·rw[if_pos U];exact⟨(y.op U O).1,(y.op U O).2,D,by show c.parts.length<=_;omega,h.six,h.wf⟩
 rw[if_neg U]at I |-;by_cases V:one.kind=3\/one.kind=4
 ·rw[if_pos V]at I |-
  by_cases X:c.opened.length=6
  ·rw[if_pos X]at I;cases I
  ·rw[if_neg X]
   have:=h.six;exact⟨h.op,h.cl,D,by simp;omega,by simp;omega,h.wf.push _ V⟩
 rw[if_neg V]at I |-;by_cases X:one.kind=5
 ·rw[if_pos X]at I |-
  cases Y:c.opened.getLast? with
  |none=>rw[Y]at I;cases I
  |some m=>
    rw[Y]at I;by_cases Z:qmg c.parts m≠one.name
    ·simp only[if_pos Z]at I;cases I
    ·simp only[if_neg Z]
     have:=h.six;refine⟨h.op,h.cl,D,by simp[qit];omega,by simp;omega,?_⟩;exact h.wf.pop m Y ⟨5,p,one.name,m⟩ rfl rfl
 ·rw[if_neg X]
  have:=y.kind;exact⟨h.op,h.cl,D,by simp;omega,h.six,h.wf.snoc _ (by simp only;omega)⟩
theorem qhj{t:zU}(h:CtOk t c a){d:Ct}{b:Nat}(J:c.step t a=.next d b):CtOk t d b/\a<b:=by
 unfold Ct.step at J;have I:=h.le;by_cases O:(Go.Lib.cut (t.drop a) c.op).2.2=false
 ·rw[if_pos O]at J;cases J
 rw[if_neg O]at J;obtain⟨i,_,T,_,U,z⟩:=qj8 _ _ (zac O);simp only[z,U]at J;rw[yM]at T;by_cases V:(Go.Lib.cut ((t.drop a).drop (i+c.op.length)) c.cl).2.2=false
 ·rw[if_pos V]at J;cases J
 rw[if_neg V]at J;obtain⟨j,_,X,_,_,D⟩:=qj8 _ _ (zac V);rw[D]at J;rw[yM,yM]at X;have y:=qqh (Go.Lib.trimS (Go.Lib.cut ((t.drop a).drop (i+c.op.length)) c.cl).1 qag);generalize qba _=one at J y;have Y:=h.op;have Z:=h.cl;have hO:(if one.kind≠2 then qel t (a+i) (a+i+c.op.length+j+c.cl.length)else(a+i,a+i+c.op.length+j+c.cl.length)).1<=a+i/\a+i+c.op.length+j+c.cl.length<=(if one.kind≠2 then qel t (a+i) (a+i+c.op.length+j+c.cl.length)else(a+i,a+i+c.op.length+j+c.cl.length)).2/\(if one.kind≠2 then qel t (a+i) (a+i+c.op.length+j+c.cl.length)else(a+i,a+i+c.op.length+j+c.cl.length)).2<=t.length:=by
  split
  ·exact qqx _ _ _ (by omega) (by omega)
  ·refine⟨yg _,yg _,?_⟩;show a+i+c.op.length+j+c.cl.length<=t.length;omega
 generalize (if one.kind≠2 then qel t (a+i) (a+i+c.op.length+j+c.cl.length)else(a+i,a+i+c.op.length+j+c.cl.length))=o at J hO;obtain⟨o1,o2⟩:=o;simp only at J hO;by_cases h3:((c.addText t a o1).take one (a+i)).1≠0
 ·rw[if_pos h3]at J;cases J
 rw[if_neg h3]at J;injection J with e1 e2;subst e1 e2;refine⟨zad (a:=a+i) (qin h o1 _ (by omega) (by omega) (by omega)) one y _ _ (by omega) (by omega) (by omega),by omega⟩
theorem zae{l:List Pt}{st:List Nat}(h:WfO l st)(y:st.getLast?=none):Wf 0 l:=by
 cases h with
 |done l h=>exact h
 |opn=>simp at y
theorem q15{t:zU}{k p:Nat}(y:c.step t a=.slip k p):k≠0:=by
 unfold Ct.step at y;by_cases z:(Go.Lib.cut (t.drop a) c.op).2.2=false
 ·rw[if_pos z]at y;cases y
 rw[if_neg z]at y;simp only at y;by_cases D:(Go.Lib.cut (Go.Lib.cut (t.drop a) c.op).2.1 c.cl).2.2=false
 ·rw[if_pos D]at y;injection y with e _;omega
 rw[if_neg D]at y;generalize I:(if(qba _).kind≠2 then _ else _:Nat×Nat)=o at y;by_cases J:((c.addText t a o.1).take (qba (Go.Lib.trimS (Go.Lib.cut (Go.Lib.cut (t.drop a) c.op).2.1 c.cl).1 qag)) (a+(Go.Lib.cut (t.drop a) c.op).1.length)).1≠0
 ·rw[if_pos J]at y;injection y with e _;rw[<-e];exact J
 ·rw[if_neg J]at y;cases y
theorem q16{t:zU}{d:Ct}(y:c.step t a=.over d):d=c.addText t a t.length:=by
 unfold Ct.step at y;by_cases z:(Go.Lib.cut (t.drop a) c.op).2.2=false
 ·rw[if_pos z]at y;injection y with e;exact e.symm
 rw[if_neg z]at y;simp only at y;by_cases D:(Go.Lib.cut (Go.Lib.cut (t.drop a) c.op).2.1 c.cl).2.2=false
 ·rw[if_pos D]at y;cases y
 rw[if_neg D]at y;generalize I:(if(qba _).kind≠2 then _ else _:Nat×Nat)=o at y;by_cases J:((c.addText t a o.1).take (qba (Go.Lib.trimS (Go.Lib.cut (Go.Lib.cut (t.drop a) c.op).2.1 c.cl).1 qag)) (a+(Go.Lib.cut (t.drop a) c.op).1.length)).1≠0
 ·rw[if_pos J]at y;cases y
 ·rw[if_neg J]at y;cases y
theorem zgc(t:zU):∀(n:Nat) (c:Ct) (a:Nat),CtOk t c a->t.length - a<n->(Ct.go t n c a).1.1=0->Wf 0 (Ct.go t n c a).2/\(Ct.go t n c a).2.length<=t.length:=by
 intro n
 induction n with
 |zero=>intro c a _ h;omega
 |succ n ih=>
   intro c a z D I;unfold Ct.go at I |-;cases y:c.step t a with
   |slip k p=>
     rw[y]at I;exact absurd I (q15 y)
   |over d=>
     rw[y]at I;simp only at I |-;have hd:CtOk t d t.length:=by rw[q16 y];exact qin z _ _ z.le (yg _) (yg _)
     refine⟨zae hd.wf ?_,hd.few⟩;unfold Ct.left at I;cases J:d.opened.getLast? with
     |none=>rfl
     |some m=>rw[J]at I;cases I
   |next d b=>
     rw[y]at I;obtain⟨O,T⟩:=qhj z y;have:=O.le;exact ih d b O (by omega) I
theorem qrh(t:zU)(h:(qam t).1.1=0):Wf 0 (qam t).2/\(qam t).2.length<=t.length:=by
 unfold qam at h |-;split at h
 ·cases h
 ·split at h
  ·rename_i y z
   rw[if_neg y,if_pos z];exact zgc t _ _ _ (qik t) (by omega) z
  ·rename_i y z;exact absurd h z
end Pl
end Go.Proofs.YtfkhljmiehdgmaaGreatDoor
