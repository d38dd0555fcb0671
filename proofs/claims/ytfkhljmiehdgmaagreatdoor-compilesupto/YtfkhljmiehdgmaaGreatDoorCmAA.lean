/-
  Steps of the proof.
-/
import Derived.Test.YtfkhljmiehdgmaaGreatDoorCmHd
import Derived.Test.YtfkhljmiehdgmaaGreatDoorRows
import Derived.WalkKit
import Derived.WalkSpells
import Derived.WalkLawsBesides
import Derived.BigQuiet
import Derived.Deep.QuietTactic
import Derived.Lib.UnsafeStr
import Derived.RegionTactic
import Derived.Deep.RegionWith
import Derived.Lib.Split
import Derived.Lib.SlTrimSet
import Derived.BigRegion
import Derived.Lib.IndexMore
import Derived.Lib.IndexLaws
set_option maxRecDepth 100000
set_option maxHeartbeats 40000000
namespace Go.Proofs.YtfkhljmiehdgmaaGreatDoor.Pl
def qhn(b:UInt8):Bool:=decide (65<=b.toNat) && decide (b.toNat<=90)
def qc2(b:UInt8):Bool:=(decide (97<=b.toNat) && decide (b.toNat<=122)) || qhn b
def qjb(b:UInt8):Bool:=decide (48<=b.toNat) && decide (b.toNat<=57)
def qcr(b:UInt8):UInt8:=if qhn b then b+32 else b
def among(b:UInt8)(l:List UInt8):Bool:=l.any fun c=>c==b
theorem qc9(s:ByteArray)(k:Nat)(h:k<s.size):s.data.toList.take (k+1)=s.data.toList.take k++[s[k]]:=by
 rw[List.take_succ_eq_append_getElem (by simpa using h)];rfl
theorem qeu(s:ByteArray)(k:Nat)(h:s.size<=k):s.data.toList.take k=s.data.toList:=
 List.take_of_length_le (by simpa using h)
theorem qr7(s:ByteArray)(k:Nat)(h:k<s.size):s.data.toList=s.data.toList.take k++s[k]::s.data.toList.drop (k+1):=by
 have:=List.take_append_drop k s.data.toList;rw[List.drop_eq_getElem_cons (by simpa using h)]at this;exact this.symm
theorem beq8(a b:UInt8):((a.toNat:Int)==(b.toNat:Int))=(a==b):=by
 rw[Bool.eq_iff_iff];simp only[beq_iff_eq,Int.natCast_inj,UInt8.toNat_inj]
theorem qh5(a:UInt8)(n:Nat)(h:n<256):((a.toNat:Int)==(n:Int))=(a==UInt8.ofNat n):=by
 rw[<-beq8];simp[Nat.mod_eq_of_lt h]
theorem q15(b c:UInt8)(l:List UInt8):among b (l++[c])=(among b l || c==b):=by
 simp[among]
theorem q48(b:UInt8)(s:ByteArray)(k:Nat)(h:k<s.size)(he:((s[k].toNat:Int)==(b.toNat:Int))=true):among b s.data.toList=true:=by
 rw[beq8]at he;rw[qr7 s k h];simp[among,he]
theorem q16(b:UInt8)(s:ByteArray)(k:Nat)(h:k<s.size)(hn:among b (s.data.toList.take k)=false)(he:((s[k].toNat:Int)==(b.toNat:Int))=false):among b (s.data.toList.take (k+1))=false:=by
 rw[beq8]at he;rw[qc9 s k h,q15,hn,he];rfl
theorem q49(b:UInt8)(s:ByteArray)(k:Nat)(h:¬k<s.size)(hn:among b (s.data.toList.take k)=false):among b s.data.toList=false:=by
 rwa [qeu s k (by omega)]at hn
end Go.Proofs.YtfkhljmiehdgmaaGreatDoor.Pl
namespace Go.Proofs.YtfkhljmiehdgmaaGreatDoor
open Go.RowKit
theorem qbo{a b:Bool}(h:a=b):Ending.returned (.bool a)=.returned (.bool b):=by rw[h]
theorem qan{k:IntKind}{a b:Int}(h:a=b):Ending.returned (.int k a)=.returned (.int k b):=by rw[h]
theorem qdd{a b:ByteArray}(h:a=b):Ending.returned (.string a)=.returned (.string b):=by rw[h]
theorem q5a(b:UInt8)(s:ByteArray)(w:World)(hs:s.size<=1000000000) :
  Calls Tryz.prog 80 #[.int .u8 b.toNat,.string s] w fun e w'=>e=.returned (.bool (Pl.among b s.data.toList))/\w=w':=by
 go_enter Tryz.func80,Tryz.ntmps80
 go_wp2
 go_loop [4,5] (fun r i=>r=.bool false/\∃k:Nat,k<=s.size/\i=.int .i64 k/\Pl.among b (s.data.toList.take k)=false) (fun _ i=>s.size - (intOf i).toNat)
 case atStart=>exact⟨rfl,0,Nat.zero_le _,rfl,rfl⟩
 case round=>
  obtain⟨rfl,k,hk,rfl,hn⟩:=hrel;have HN:Hid (Pl.among b (s.data.toList.take k)=false):=hn;clear hn;by_cases ha:k<s.size
  ·go_wp2
   ·go_ret
    exact⟨qbo (Pl.q48 b s k ha ‹_›).symm,rfl⟩
   ·go_round
    case rel=>exact⟨rfl,k+1,by omega,by go_num,Pl.q16 b s k ha HN.out ‹_›⟩
    case measure=>simp[intOf];omega
  ·go_wp2
   go_ret
   exact⟨qbo (Pl.q49 b s k ha HN.out).symm,rfl⟩
theorem qn9(b:UInt8)(w:World) :
  Calls Tryz.prog 181 #[.int .u8 b.toNat] w fun e w'=>e=.returned (.bool (Pl.qhn b))/\w=w':=by
 by_cases h1:65<=b.toNat<;>by_cases h2:b.toNat<=90
 all_goals
  have H:Hid (Pl.qhn b=_):=show Pl.qhn b=(decide (65<=b.toNat) && decide (b.toNat<=90))from rfl;go_enter Tryz.func181,Tryz.ntmps181
  go_wp2
  all_goals
   go_ret
   exact⟨qbo (by rw[H.out];simp[h1,h2]<;>omega),rfl⟩
theorem qg5(b:UInt8)(w:World) :
  Calls Tryz.prog 102 #[.int .u8 b.toNat] w fun e w'=>e=.returned (.bool (Pl.qjb b))/\w=w':=by
 by_cases h1:48<=b.toNat<;>by_cases h2:b.toNat<=57
 all_goals
  have H:Hid (Pl.qjb b=_):=show Pl.qjb b=(decide (48<=b.toNat) && decide (b.toNat<=57))from rfl;go_enter Tryz.func102,Tryz.ntmps102
  go_wp2
  all_goals
   go_ret
   exact⟨qbo (by rw[H.out];simp[h1,h2]<;>omega),rfl⟩
theorem add8(b:UInt8)(h:b.toNat<=90):((b+32).toNat:Int)=b.toNat+32:=by
 rw[UInt8.toNat_add];simp;omega
theorem qgw(b:UInt8)(w:World) :
  Calls Tryz.prog 101 #[.int .u8 b.toNat] w fun e w'=>e=.returned (.int .u8 (Pl.qcr b).toNat)/\w=w':=by
 by_cases h1:65<=b.toNat<;>by_cases h2:b.toNat<=90
 all_goals
  have H:Hid (Pl.qcr b=_):=show Pl.qcr b=(if(decide (65<=b.toNat) && decide (b.toNat<=90))=true then b+32 else b)from rfl;go_enter Tryz.func101,Tryz.ntmps101
  go_wp2
  all_goals
   go_ret
   exact⟨qan (by rw[H.out];simp only[h1,h2,decide_true,decide_false,Bool.and_true,Bool.and_false,Bool.and_self,if_true,Bool.false_eq_true,if_false]<;>exact(add8 b h2).symm),rfl⟩
theorem qfw(b:UInt8)(w:World) :
  Calls Tryz.prog 132 #[.int .u8 b.toNat] w fun e w'=>e=.returned (.bool (Pl.qc2 b))/\w=w':=by
 by_cases h1:97<=b.toNat<;>by_cases h2:b.toNat<=122
 all_goals
  have H:Hid (Pl.qc2 b=_):=show Pl.qc2 b=((decide (97<=b.toNat) && decide (b.toNat<=122)) || Pl.qhn b)from rfl;go_enter Tryz.func132,Tryz.ntmps132
  go_wp2_with (go_at_call 181;refine(qn9 b _).mono ?_;rintro e w' ⟨rfl,rfl⟩)
  all_goals
   go_ret
   exact⟨qbo (by rw[H.out];simp[h1,h2]<;>omega),rfl⟩
end Go.Proofs.YtfkhljmiehdgmaaGreatDoor
namespace Go.Proofs.YtfkhljmiehdgmaaGreatDoor.Pl
abbrev Step:=Nat×List UInt8×Nat
def qbs:List Step:=[
 (1,[60],2),(2,[97],3),(2,[47],11),(2,[33],13),(3,[9,10,12,13,32,47],4),(3,[62],34),(4,[9,10,12,13,32,47],4),(4,[62],34),
 (5,[9,10,12,13,32],6),(5,[61],7),(5,[47],4),(5,[62],34),(6,[9,10,12,13,32],6),(6,[61],7),(6,[47],4),(6,[62],34),
 (7,[9,10,12,13,32],7),(7,[34],8),(7,[39],9),(7,[62],34),(8,[34],4),(9,[39],4),(10,[9,10,12,13,32],4),(10,[62],34),
 (11,[97],12),(11,[62],1),(12,[62],1),(13,[45],14),(13,[62],1),(14,[45],15),(14,[62],1),(15,[45],16),(16,[45],17),(17,[62],1),(17,[45],17),(18,[62],1)]
def qbf:List Step:=[
 (20,[34],21),(20,[39],22),(20,[96],23),(20,[47],24),(21,[34,10],20),(22,[39,10],20),(23,[96],20),(24,[47],25),(24,[42],26),(25,[10],20),(26,[42],27),
 (27,[47],20),(27,[42],27),(28,[34],29),(28,[39],30),(28,[47],31),(29,[34,10],28),(30,[39,10],28),(31,[42],32),(32,[42],33),(33,[47],28),(33,[42],33)]
def qed:List Nat:=[0,0,1,0,0,0,0,0,0,0,0,0,0,0,0,0,0,0,0,0,0,0,0,0,20,0,0,0,0,0,0,28,0,0]
def qes:List Nat:=[0,0,0,0,5,0,5,10,0,0,0,18,0,18,18,0,15,15,0,0,0,0,0,0,0,0,0,26,0,0,0,0,0,32]
def qa3:List Bool:=[false,false,false,false,false,false,false,false,false,false,false,false,false,false,false,false,false,false,false,false,false,true,true,true,false,false,false,false,false,true,true,false,false,false]
def qd3:List UInt8:=[116,105,116,108,101]
def qgp:List UInt8:=[116,101,120,116,97,114,101,97]
def qct:List UInt8:=[115,99,114,105,112,116]
def qcw:List UInt8:=[115,116,121,108,101]
def qmi:List (List UInt8×Nat):=[(qd3,19),(qgp,19),(qct,20),(qcw,28)]
def qdv:List (List UInt8×Bool×Int):=[([104,114,101,102],false,1),([115,114,99],false,1),([97,99,116,105,111,110],false,1),(qcw,false,2),([111,110],true,2)]
structure St where
 mode:Nat
 name:List UInt8
 elem:List UInt8
 kind:Int
 read:Nat
 esc:Bool
def hit(m:Nat)(b:UInt8)(r:Step):Bool:=decide (r.1=m) && among b r.2.1
def lookup(l:List Step)(m:Nat)(b:UInt8):Nat:=match l.find? (hit m b)with
 |some r=>r.2.2
 |none=>0
def qd8(b:UInt8):UInt8:=if qc2 b then 97 else b
def qc3(m:Nat)(b:UInt8):Nat:=if m<19 then lookup qbs m (qd8 b)else lookup qbf m (qd8 b)
def or3(a b c:Nat):Nat:=if a≠0 then a else if b≠0 then b else c
def qc4(n:List UInt8)(b:UInt8):List UInt8:=if n.length=9 then n else n++[qcr b]
def qax(n:List UInt8):List UInt8:=if n=qd3\/n=qgp\/n=qct\/n=qcw then n else[]
def qbb(n:List UInt8)(r:List UInt8×Bool×Int):Bool:=r.1==n || (r.2.1 && r.1.isPrefixOf n)
def qcx(n:List UInt8):Int:=match qdv.find? (qbb n)with
 |some r=>r.2.2
 |none=>0
def qaw(n:List UInt8):Nat:=if n=qd3 then 19 else if n=qgp then 19 else if n=qct then 20 else if n=qcw then 28 else 1
def qcg(n:List UInt8):St:=if qaw n=1 then⟨1,[],[],0,0,false⟩else⟨qaw n,[],n,0,0,false⟩
def St.named(s:St):St:=⟨s.mode,[],if s.mode=3 then qax s.name else s.elem,if s.mode=5 then qcx s.name else s.kind,s.read,s.esc⟩
def St.led1(s:St)(tz:Nat)(b:UInt8):St:=
 if tz=3 then { s with mode:=tz,name:=qc4 s.name b }
 else if tz=5 then { s with mode:=tz,name:=qc4 s.name b,kind:=0 }
 else if tz=4\/tz=10 then { s with mode:=tz,kind:=0 }
 else if tz=34 then qcg s.elem
 else { s with mode:=tz }
def St.led(s:St)(tz:Nat)(b:UInt8):St:=if tz=s.mode then s.led1 tz b else s.named.led1 tz b
def St.ending(s:St):List UInt8:=60::47::s.elem
def qdl:List UInt8:=[9,10,12,13,32,47,62]
def St.ends(s:St)(b:UInt8):Bool:=decide (s.read=s.ending.length) && among b qdl
def qc0(b:UInt8):Nat:=if b=62 then 1 else 12
def St.readEnd(s:St)(b:UInt8):Nat:=if s.ending[s.read]?=some (qcr b)then s.read+1 else if b=60 then 1 else 0
def qg6(m:Nat):Nat:=qed.getD m 0
def St.table2(s:St)(b:UInt8):St:=s.led (or3 (qc3 s.mode b) (qes.getD s.mode 0) s.mode) b
def St.table(s:St)(b:UInt8):St:=if qc3 s.mode b=0/\qg6 s.mode≠0 then({ s with mode:=qg6 s.mode }:St).table2 b else s.table2 b
def St.quiet(s:St)(b:UInt8):St:=if qa3.getD s.mode false && (s.esc || b==92)then { s with esc:=!s.esc } else s.table b
def St.behind(s:St)(b:UInt8):St:=
 if 19<=s.mode then(if s.ends b then⟨qc0 b,[],[],0,0,false⟩else({ s with read:=s.readEnd b }:St).quiet b)else s.quiet b
def St.start:St:=⟨1,[],[],0,0,false⟩
def qee:St->List UInt8->List Nat
 |_,[]=>[]
 |s,b::l=>(s.behind b).mode::qee (s.behind b) l
def qtz(s:St)(l:List UInt8):St:=l.foldl St.behind s
theorem qnk(s:St)(l m:List UInt8):qee s (l++m)=qee s l++qee (qtz s l) m:=by
 induction l generalizing s with
 |nil=>rfl
 |cons b l ih=>simp only[List.cons_append,qee,qtz,List.foldl_cons];rw[ih];rfl
theorem qsm(s:St)(l:List UInt8):(qee s l).length=l.length:=by
 induction l generalizing s with
 |nil=>rfl
 |cons b l ih=>simp[qee,ih]
theorem qp4(s:St)(l:List UInt8)(b:UInt8):qee s (l++[b])=qee s l++[((qtz s l).behind b).mode]:=by
 rw[qnk];rfl
def qiw(n:List UInt8):Prop:=n=[]\/n=qd3\/n=qgp\/n=qct\/n=qcw
structure St.Ok(s:St):Prop where
 lo:1<=s.mode
 hi:s.mode<=33
 name:s.name.length<=9
 named:s.mode≠3->s.mode≠5->s.name=[]
 elem:qiw s.elem
 bare:s.mode<4\/(10<s.mode/\s.mode<19)->s.elem=[]/\s.kind=0
 low:s.mode<19->s.read=0
 calm:qa3.getD s.mode false=false->s.esc=false
 read:s.read<=s.ending.length
 wrap:-3<=s.kind/\s.kind<=3
 high:19<=s.mode->s.elem≠[]/\s.kind=0
theorem qnp{α:Type}{l:List α}(f:α->Bool)(k:Nat)(x:α)(hx:l[k]?=some x)(hn:(l.take k).find? f=none)(h:f x=true):l.find? f=some x:=by
 obtain⟨hk,rfl⟩:=List.getElem?_eq_some_iff.1 hx;have e:l=l.take k++l[k]::l.drop (k+1):=by rw[<-List.drop_eq_getElem_cons hk,List.take_append_drop]
 have e2:l.find? f=(l.take k++l[k]::l.drop (k+1)).find? f:=congrArg (List.find? f) e;rw[e2,List.find?_append,hn,List.find?_cons_of_pos h];rfl
theorem qc1{α:Type}{l:List α}(f:α->Bool)(k:Nat)(x:α)(hx:l[k]?=some x)(hn:(l.take k).find? f=none)(h:f x=false):(l.take (k+1)).find? f=none:=by
 obtain⟨hk,rfl⟩:=List.getElem?_eq_some_iff.1 hx;rw[List.take_succ_eq_append_getElem hk,List.find?_append,hn,List.find?_cons_of_neg (by simp[h])];rfl
theorem qfx(n:List UInt8)(k:Nat)(x:List UInt8×Bool×Int)(hx:qdv[k]?=some x)(hn:(qdv.take k).find? (qbb n)=none)(h:qbb n x=true):qcx n=x.2.2:=by
 unfold qcx;rw[qnp _ k x hx hn h]
theorem qxl(n:List UInt8)(hn:(qdv.take 5).find? (qbb n)=none):qcx n=0:=by
 unfold qcx;rw[show qdv=qdv.take 5 from rfl,hn]
def qbw(m:Nat)(b:UInt8):Nat:=if qc3 m b=0/\qg6 m≠0 then qg6 m else m
def qde(m:Nat)(b:UInt8):Nat:=or3 (qc3 (qbw m b) b) (qes.getD (qbw m b) 0) (qbw m b)
theorem qno(s:St)(b:UInt8):s.table b=(St.mk (qbw s.mode b) s.name s.elem s.kind s.read s.esc).led (qde s.mode b) b:=by
 unfold St.table St.table2 qde qbw;by_cases h:qc3 s.mode b=0/\qg6 s.mode≠0
 ·rw[if_pos h,if_pos h]
 ·rw[if_neg h,if_neg h]
def qnf(m:Nat)(b:UInt8):Bool:=
 let r:=qbw m b
 let t:=qde m b
 decide (1<=r) && decide (r<=33) && decide (1<=t) && decide (t<=34)
 && (if m<19 then decide (r<19) && (decide (t<19) || decide (t=34))else decide (19<=r) && decide (19<=t) && decide (t<=33))
 && (decide (r=m) || (decide (m=2) && decide (r=1)) || decide (24<=m))
 && (if t=34 then decide (3<=m) && decide (m<=10)else true)
 && (if t=3 then decide (m=2) || decide (m=3)else true)
 && (if t=5 then decide (m=4) || decide (m=5) || decide (m=6)else true)
 && (if t=4\/(6<=t/\t<=10)then decide (3<=m) && decide (m<=10)else true)
 && (if t=1\/t=2\/(11<=t/\t<=18)then decide (m=1) || decide (m=2) || (decide (11<=m) && decide (m<=18))else true)
def named:List UInt8:=[9,10,12,13,32,33,34,39,42,45,47,60,61,62,96,97]
def cls(b:UInt8):UInt8:=if among (qd8 b) named then qd8 b else 0
theorem qg8{b:UInt8}{l:List UInt8}:among b l=true↔b∈l:=by
 unfold among;rw[List.any_eq_true];constructor
 ·rintro⟨x,hx,e⟩
  rw[beq_iff_eq]at e;exact e▸hx
 ·intro h
  exact⟨b,h,by simp⟩
theorem qky(b:UInt8):cls b∈0::named:=by
 unfold cls;split
 ·rename_i h
  exact List.mem_cons_of_mem _ (qg8.1 h)
 ·exact List.mem_cons_self
theorem qvy(b:UInt8):qd8 (cls b)=cls b:=by
 have:∀c∈(0::named:List UInt8),qd8 c=c:=by decide
 exact this _ (qky b)
theorem qv3(b:UInt8)(l:List UInt8)(hl:l.all (fun c=>among c named)=true):among (qd8 b) l=among (cls b) l:=by
 unfold cls;split
 ·rfl
 ·rename_i h
  rw[Bool.eq_iff_iff,qg8,qg8];constructor
  ·intro hb
   exact absurd (List.all_eq_true.1 hl _ hb) h
  ·intro h0
   exact absurd (List.all_eq_true.1 hl _ h0) (by decide)
theorem qme{α:Type}{f g:α->Bool}:∀(l:List α),(∀x∈l,f x=g x)->l.find? f=l.find? g
 |[],_=>rfl
 |x::l,h=>by
   rw[List.find?_cons,List.find?_cons,h x List.mem_cons_self,qme l (fun y hy=>h y (List.mem_cons_of_mem _ hy))]
theorem qq2(m:Nat)(b:UInt8)(l:List Step)(hl:l.all (fun r=>r.2.1.all (fun c=>among c named))=true):lookup l m (qd8 b)=lookup l m (qd8 (cls b)):=by
 unfold lookup;rw[qvy,qme l];intro r hr;unfold hit;rw[qv3 b r.2.1 (List.all_eq_true.1 hl r hr)]
theorem qqh(m:Nat)(b:UInt8):qc3 m b=qc3 m (cls b):=by
 unfold qc3;rw[qq2 m b qbs (by decide +kernel),qq2 m b qbf (by decide +kernel)]
theorem ql6(m:Nat)(b:UInt8):qbw m b=qbw m (cls b):=by unfold qbw;rw[qqh]
theorem qur(m:Nat)(b:UInt8):qde m b=qde m (cls b):=by unfold qde;rw[ql6,qqh]
theorem q24(m:Nat)(b:UInt8):qnf m b=qnf m (cls b):=by
 unfold qnf;rw[ql6,qur]
theorem q23:((List.range 34).all fun m=>m==0 || (0::named).all fun c=>qnf m c)=true:=by decide +kernel
theorem qon(m:Nat)(h1:1<=m)(h2:m<=33)(b:UInt8):qnf m b=true:=by
 rw[q24];have:=(List.all_eq_true.1 q23) m (List.mem_range.2 (by omega));simp only[Bool.or_eq_true,beq_iff_eq]at this;rcases this with h|h
 ·omega
 ·exact List.all_eq_true.1 h _ (qky b)
structure Sp where
 mode:Int
 tag:List UInt8
 attr:List UInt8
 inside:List UInt8
 run:List UInt8
 far:Int
def Sp.start:Sp:=⟨1,[],[],[],[],0⟩
def qco(n:List UInt8):Nat:=if n=qd3 then 1 else if n=qgp then 2 else if n=qct then 3 else if n=qcw then 4 else 0
def qcm(n:List UInt8):List UInt8:=60::47::n
def qf5(inside e:List UInt8)(n:Nat):Bool:=decide (n<=inside.length) && ((inside.drop (inside.length - n)).map qcr==e.take n)
def qbp(inside e:List UInt8):Nat->Nat
 |0=>0
 |n+1=>if qf5 inside e (n+1)then n+1 else qbp inside e n
def Sp.read(p:Sp):Nat:=qbp p.inside (qcm p.tag) (qcm p.tag).length
def qb8(m:Int):Bool:=m==21 || (m==22 || (m==23 || (m==29 || m==30)))
def qa2:List UInt8:=[48,49,50,51,52,53,54,55,56,57,97,98,99,100,101,102,65,66,67,68,69,70]
def qcl(css:Bool)(left:Int)(b:UInt8):Int:=
 if left=1 then(if(css && among b qa2)=true then 6 else if(!css && b==120)=true then 3 else if(!css && b==117)=true then 5 else 0)
 else if 1<left/\among b qa2=true then(if left - 1=1 then 0 else left - 1)
 else if b=92 then 1 else 0
def qd1(css:Bool)(run:List UInt8):Int:=run.foldl (qcl css) 0
def qcb(s:List UInt8):List UInt8:=if 12<s.length then s.drop (s.length - 12)else s
def qdj:List UInt8:=[97,98,99,100,101,102,103,104,105,106,107,108,109,110,111,112,113,114,115,116,117,118,119,120,121,122,65,66,67,68,69,70,71,72,73,74,75,76,77,78,79,80,81,82,83,84,85,86,87,88,89,90,48,49,50,51,52,53,54,55,56,57,35]
def refR:List UInt8->Bool
 |[]=>false
 |b::l=>if b=38 then true else if among b qdj=true then refR l else false
def qhv(run:List UInt8):Bool:=refR run.reverse
def qbe(m:Int):Bool:=decide (28<=m)
def kept(m:Int)(run:List UInt8):List UInt8:=
 if qb8 m=true then(if qd1 (qbe m) run=0 then[]else run)
 else if qhv run=true then[38]else if m=1\/m=19 then[]else if 2<run.length then run.drop (run.length - 2)else run
def qi0:List UInt8:=[97,98,99,100,101,102,103,104,105,106,107,108,109,110,111,112,113,114,115,116,117,118,119,120,121,122,65,66,67,68,69,70,71,72,73,74,75,76,77,78,79,80,81,82,83,84,85,86,87,88,89,90]
def bl:List UInt8:=[9,10,12,13,32]
def bls:List UInt8:=[9,10,12,13,32,47]
def q8v:List (List (List UInt8×Int)):=[[],
 [([60],2)],
 [(qi0,3),([47],11),([33],13),([],-2)],
 [(bls,4),([62],-1)],
 [(bls,4),([62],-1),([],5)],
 [(bl,6),([61],7),([47],4),([62],-1)],
 [(bl,6),([61],7),([47],4),([62],-1),([],5)],
 [(bl,7),([34],8),([39],9),([62],-1),([],10)],
 [([34],4)],
 [([39],4)],
 [(bl,4),([62],-1)],
 [(qi0,12),([62],1),([],18)],
 [([62],1)],
 [([45],14),([62],1),([],18)],
 [([45],15),([62],1),([],18)],
 [([45],16)],
 [([45],17),([],15)],
 [([62],1),([45],17),([],15)],
 [([62],1)]]
def q6s:List (List (List UInt8×Int)):=[
 [([34],21),([39],22),([96],23),([47],24)],
 [([34,10],20)],
 [([39,10],20)],
 [([96],20)],
 [([47],25),([42],26),([],-2)],
 [([10],20)],
 [([42],27)],
 [([47],20),([42],27),([],26)],
 [([34],29),([39],30),([47],31)],
 [([34,10],28)],
 [([39,10],28)],
 [([42],32),([],-2)],
 [([42],33)],
 [([47],28),([42],33),([],32)]]
def qju(m:Nat):List (List UInt8×Int):=q8v.getD m []
def qll(m:Nat):List (List UInt8×Int):=q6s.getD (m - 20) []
def qe3(m:Nat):List (List UInt8×Int):=if 20<=m then qll m else qju m
def qgz(b:UInt8)(r:List UInt8×Int):Bool:=r.1==[] || among b r.1
def tgt(m:Nat)(b:UInt8):Int:=match (qe3 m).find? (qgz b)with
 |some r=>r.2
 |none=>m
def qfp(s:List UInt8):List UInt8:=if 9<s.length then s.take 9 else s
def qcq(far:Int)(b:UInt8):Int:=if(b==47 || (b==63 || (b==35 || (b==58 && far != 4))))=true then 1 else if far=2 then 3 else far
def Sp.named(p:Sp)(m:Nat)(b:UInt8)(tz:Int):Sp:=
 if 19<=tz then⟨0,p.tag,[],p.inside,[],0⟩
 else if tz=3 then⟨0,if m=2 then[qcr b]else qfp (p.tag++[qcr b]),[],p.inside,[],0⟩
 else if tz=5 then⟨0,p.tag,if m=5 then qfp (p.attr++[qcr b])else[qcr b],p.inside,[],0⟩
 else if tz=6\/tz=7\/tz=8\/tz=9 then⟨0,p.tag,p.attr,p.inside,[],0⟩
 else if tz=4\/tz=10 then⟨0,p.tag,[],p.inside,[],0⟩
 else⟨0,[],[],p.inside,[],0⟩
def runs(tz:Int):Bool:=tz==1 || (tz==8 || (tz==9 || qb8 tz))
def Sp.step1(p:Sp)(m:Nat)(b:UInt8):Sp:=
 if tgt m b=-1 then(if qaw p.tag=1 then Sp.start else⟨qaw p.tag,p.tag,[],[],[],0⟩)
 else⟨tgt m b,(p.named m b (tgt m b)).tag,(p.named m b (tgt m b)).attr,(p.named m b (tgt m b)).inside,
  if tgt m b=m/\runs (tgt m b)=true then kept (tgt m b) (p.run++[b])else[],
  if tgt m b=8\/tgt m b=9 then(if tgt m b=m then qcq p.far b else 2)else 0⟩
def qa8(m:Nat):Nat:=if m=24 then 20 else if m=31 then 28 else 1
def Sp.step(p:Sp)(m:Nat)(b:UInt8):Sp:=
 if tgt m b=-2 then(Sp.mk (qa8 m) p.tag p.attr p.inside [] p.far).step1 (qa8 m) b else p.step1 m b
def Sp.element(p:Sp)(m:Nat)(b:UInt8):Sp:=
 if p.read=(qcm p.tag).length/\among b qdl=true then(if b=62 then Sp.start else⟨12,[],[],[],[],0⟩)
 else if qb8 m=true/\qd1 (qbe m) p.run=1 then⟨m,p.tag,p.attr,qcb (p.inside++[b]),p.run++[b],p.far⟩
 else if m=19 then⟨m,p.tag,p.attr,qcb (p.inside++[b]),kept m (p.run++[b]),p.far⟩
 else(Sp.mk m p.tag p.attr (qcb (p.inside++[b])) p.run p.far).step m b
def Sp.next(p:Sp)(b:UInt8):Sp:=if 19<=p.mode.toNat then p.element p.mode.toNat b else p.step p.mode.toNat b
def q9b:List UInt8:=[97,98,99,100,101,102,103,104,105,106,107,108,109,110,111,112,113,114,115,116,117,118,119,120,121,122,65,66,67,68,69,70,71,72,73,74,75,76,77,78,79,80,81,82,83,84,85,86,87,88,89,90]
def q1p:List UInt8:=[48,49,50,51,52,53,54,55,56,57,43,45,46]
def run(l:List UInt8):Bool->Nat
 |later=>match l with
   |[]=>0
   |b::r=>if among b q9b || (later && among b q1p)then run r true+1 else 0
theorem qyt(s:ByteArray)(k:Nat)(hk:k<=s.size):(s.data.toList.take k).length=k:=by
 have:s.data.size=s.size:=rfl;simp;omega
end Go.Proofs.YtfkhljmiehdgmaaGreatDoor.Pl
namespace Go.Proofs.YtfkhljmiehdgmaaGreatDoor
open Go.RowKit
theorem qir{B:Nat}{a w w':World}{e:TypeId}{v:Value}{n:Nat}{xs:List Value}(h:Below B a w)(ho:w.ownsRow B e 1 v n xs)(hg:w.grownBy w' v.ownBlock)(hB:B<=w.heap.size):Below B a w':=
 h.grown hg hB fun k hk=>(ho.lt k hk).1
theorem qbl{P:Program}(w:World)(g:Nat)(ty:TypeId)(cs:Array Value)(d:TypeDesc)(hg:∀j v,cs.toList[j]?=some v->w.cell? ⟨g,j,none⟩=some v)
  (hu:P.underlying ty=some d) (hd:(match d with|.struct _|.array _ _=>true|_=>false)=true) (hi:(P.info? ty).map (·.size)=some cs.size) :
  (loadVar ty ⟨g,0,none⟩).run P w=.ok (.agg cs) w:=by
 have hl:(loadCells ⟨g,0,none⟩ cs.toList.length).run P w=.ok cs.toList.toArray w:=
  run_loadCells_list (P:=P) w ⟨g,0,none⟩ cs.toList (fun j v hv=>by
   have ha:(⟨g,0,none⟩:Addr).add j=⟨g,j,none⟩:=by unfold Addr.add;split<;>simp_all
   rw[ha];exact hg j v hv)
 cases hq:P.info? ty with
 |none=>simp[hq]at hi
 |some i=>
   have hs:i.size=cs.size:=by simpa [hq]using hi
   have Ha:(isAgg ty).run P w=.ok true w:=by
    unfold isAgg;rw[Sem.run_bind,run_underlying hu w];cases d<;>simp_all
   simp only[Array.length_toList,Array.toArray_toList]at hl;simp[loadVar,Sem.run_bind,Ha,sizeOf,typeInfo,hq,hs,hl]
variable{P:Program}{fn:Func}{p:Tmp}{w:World}{fz:Nat×Nat}
def aggD:TypeDesc->Bool
 |.struct _=>true
 |.array _ _=>true
 |_=>false
theorem qbk{ty:TypeId}(h:fn.results=#[.cell p ty])(tmps:Array Value)(w:World)(g:Nat)(cs:Array Value)(d:TypeDesc)(hp:tmps.getD p undef=.pointer (some ⟨g,0,none⟩))
  (hg:∀j v,cs.toList[j]?=some v->w.cell? ⟨g,j,none⟩=some v)
  (hu:P.underlying ty=some d) (hd:aggD d=true) (hi:(P.info? ty).map (·.size)=some cs.size) :
  (results fn tmps).run P w=.ok (.agg cs) w:=by
 have hl:=qbl (P:=P) w g ty cs d hg hu (by cases d<;>first|rfl|cases hd) hi
 rw[Array.getD_eq_getD_getElem?]at hp;simp only[results,h];simp[hp,asAddr,hl]
theorem qaa{g:Nat}{cs:Array Value}{t:TypeId}(h:w.heap[g]?=some (.cells cs t fz)):∀(j:Nat) (v:Value),cs.toList[j]?=some v->w.cell? ⟨g,j,none⟩=some v:=by
 intro j v hv;rw[cell_of_row w g j cs t fz h];simpa using hv
theorem qb4{R:Ending->World->Prop}{a:Act}{ty t:TypeId}(h:fn.results=#[.cell p ty])(g:Nat)(cs:Array Value)(d:TypeDesc)
  (hu:P.underlying ty=some d) (hd:aggD d=true)
  (hp:a.tmps.getD p undef=.pointer (some ⟨g,0,none⟩)) (hg:w.heap[g]?=some (.cells cs t fz)) (hi:(P.info? ty).map (·.size)=some cs.size) (ha:a.defers=[]) (hR:R (.returned (.agg cs)) w):bodyPost P fn R .ret a w:=
 bodyPost_ret (qbk h a.tmps w g cs d hp (qaa hg) hu hd hi) ha hR
theorem qqr{f:FuncId}{args:Array Value}{n:Nat}{v:Value}
  (h:Calls P f args (w.drewN n) fun e w'=>e=.returned v/\w.drewN n=w'):Calls P f args (w.drewN n) fun e w''=>e=.returned v/\∃m,w''=w.drewN m:=
 h.mono fun _ _ ⟨he,hm⟩=>⟨he,n,hm.symm⟩
theorem qay{B:Nat}{a:World}(h:Below B a w)(n:Nat):Below B a (w.drewN n):=⟨h.os,h.tape,h.output,h.size,h.block⟩
theorem qhe(m:Int)(w:World) :
  Calls Tryz.prog 69 #[.int .i64 m] w fun e w'=>e=.returned (.bool (Pl.qb8 m))/\w=w':=by
 have H:Hid (Pl.qb8 m=_):=show Pl.qb8 m=(m==21 || (m==22 || (m==23 || (m==29 || m==30))))from rfl;go_enter Tryz.func69,Tryz.ntmps69
 go_wp2
 all_goals
  go_ret
  exact⟨qbo (by rw[H.out];first|(simp only[Bool.or_assoc])|(subst_vars;rfl)),rfl⟩
theorem qdx(b:UInt8)(all:ByteArray)(l:List UInt8)(w:World)(ha:all.data.toList=l)(hl:l.length<=1000) :
  Calls Tryz.prog 80 #[.int .u8 b.toNat,.string all] w fun e w'=>e=.returned (.bool (Pl.among b l))/\w=w':=by
 rw[<-ha];refine q5a b all w ?_;have:all.data.toList.length=all.size:=rfl;rw[<-this,ha];omega
theorem qkt(b c:UInt8)(h:((b.toNat:Int)==(c.toNat:Int))=true):b=c:=by rw[Pl.beq8,beq_iff_eq]at h;exact h
theorem qhd(b c:UInt8)(h:((b.toNat:Int)==(c.toNat:Int))=false):¬b=c:=by rw[Pl.beq8,beq_eq_false_iff_ne]at h;exact h
theorem Pl.extract_drop(s:ByteArray)(i:Nat):s.extract i s.size=⟨(s.data.toList.drop i).toArray⟩:=by
 apply ByteArray.ext;apply Array.ext';rw[ByteArray.data_extract,Array.toList_extract,List.extract_eq_take_drop,List.take_of_length_le (by rw[List.length_drop];exact Nat.le_refl _)]
theorem Pl.extract_take(s:ByteArray)(i:Nat):s.extract 0 i=⟨(s.data.toList.take i).toArray⟩:=by
 apply ByteArray.ext;apply Array.ext';rw[ByteArray.data_extract,Array.toList_extract,List.extract_eq_take_drop];simp
theorem q8r(s:ByteArray)(k:Nat)(h:k<s.size):Pl.refR (s.data.toList.take (k+1)).reverse=(if s[k]=38 then true else if Pl.among s[k] Pl.qdj=true then Pl.refR (s.data.toList.take k).reverse else false):=by
 rw[Pl.qc9 s k h,List.reverse_append];rfl
theorem qld(s:ByteArray)(w:World)(hs:s.size<=4000000000000000000) :
  Calls Tryz.prog 68 #[.string s] w fun e w'=>e=.returned (.bool (Pl.qhv s.data.toList))/\w=w':=by
 go_enter Tryz.func68,Tryz.ntmps68
 go_wp2
 go_loop [3] (fun i=>∃k:Nat,k<=s.size/\i=.int .i64 ((k:Int) - 1)/\Pl.qhv s.data.toList=Pl.refR (s.data.toList.take k).reverse) (fun i=>(intOf i+1).toNat)
 case atStart=>exact⟨s.size,Nat.le_refl _,by first|rfl|go_num,by rw[Pl.qeu s _ (Nat.le_refl _)];rfl⟩
 case round=>
  obtain⟨k,hk,rfl,hr⟩:=hrel;have HR:Hid (Pl.qhv s.data.toList=Pl.refR (s.data.toList.take k).reverse):=hr;clear hr
  match k,hk with
  |0,_=>
    go_wp2
    go_ret
    exact⟨qbo (by rw[HR.out];rfl),rfl⟩
  |k+1,hk=>
    have ha:k<s.size:=by omega
    have HS:=hd (q8r s k ha);have e1:(((k+1:Nat):Int) - 1)=(k:Int):=by omega
    rw[e1];have Ha:(k:Int)<(s.size:Int):=by omega
    go_wp2_with (go_at_call 80;refine(qdx s[k] _ Pl.qdj _ rfl (by decide)).mono ?_;rintro e w' ⟨rfl,rfl⟩)
    ·go_ret
     exact⟨qbo (by rw[HR.out,HS.out,if_pos (qkt s[k] 38 ‹_›)]),rfl⟩
    ·have h1:=qhd s[k] 38 ‹_›
     have h2:Pl.among s[k] Pl.qdj=false:=by simpa using ‹(!Pl.among s[k] Pl.qdj)=true›
     go_ret
     exact⟨qbo (by rw[HR.out,HS.out,if_neg h1,h2];rfl),rfl⟩
    ·have h1:=qhd s[k] 38 ‹_›
     have h2:Pl.among s[k] Pl.qdj=true:=by simpa using ‹(!Pl.among s[k] Pl.qdj)=false›
     go_round
     case rel=>exact⟨k,by omega,rfl,by rw[HR.out,HS.out,if_neg h1,if_pos h2]⟩
     case measure=>simp[intOf]
theorem q5t(s:ByteArray)(w:World)(hs:s.size<=4000000000000000000) :
  Calls Tryz.prog 168 #[.string s] w fun e w'=>e=.returned (.string ⟨(Pl.qcb s.data.toList).toArray⟩)/\w=w':=by
 by_cases h:12<s.size
 ·have HV:Hid (Pl.qcb s.data.toList=s.data.toList.drop (s.size - 12)):=by show _=_;unfold Pl.qcb;rw[if_pos (by show 12<s.data.toList.length;exact h)];rfl
  have hi:(12:Int)<(s.size:Int):=by omega
  have h0:(0:Int)<=(s.size:Int) - 12:=by omega
  go_enter Tryz.func168,Tryz.ntmps168
  go_wp2
  go_ret
  exact⟨qdd (by rw[HV.out];exact Pl.extract_drop s _),rfl⟩
 ·have HV:Hid (Pl.qcb s.data.toList=s.data.toList):=by show _=_;unfold Pl.qcb;rw[if_neg (by show ¬ 12<s.data.toList.length;exact h)]
  go_enter Tryz.func168,Tryz.ntmps168
  go_wp2
  go_ret
  exact⟨qdd (by rw[HV.out]),rfl⟩
theorem q1r(s:ByteArray)(w:World)(hs:s.size<=4000000000000000000) :
  Calls Tryz.prog 212 #[.string s] w fun e w'=>e=.returned (.string ⟨(Pl.qfp s.data.toList).toArray⟩)/\w=w':=by
 by_cases h:9<s.size
 ·have HV:Hid (Pl.qfp s.data.toList=s.data.toList.take 9):=by show _=_;unfold Pl.qfp;rw[if_pos (by show 9<s.data.toList.length;exact h)]
  have hi:(9:Int)<(s.size:Int):=by omega
  go_enter Tryz.func212,Tryz.ntmps212
  go_wp2
  go_ret
  exact⟨qdd (by rw[HV.out];exact Pl.extract_take s _),rfl⟩
 ·have HV:Hid (Pl.qfp s.data.toList=s.data.toList):=by show _=_;unfold Pl.qfp;rw[if_neg (by show ¬ 9<s.data.toList.length;exact h)]
  go_enter Tryz.func212,Tryz.ntmps212
  go_wp2
  go_ret
  exact⟨qdd (by rw[HV.out]),rfl⟩
theorem q65(css:Bool)(s:ByteArray)(k:Nat)(h:k<s.size):Pl.qd1 css (s.data.toList.take (k+1))=Pl.qcl css (Pl.qd1 css (s.data.toList.take k)) s[k]:=by
 rw[Pl.qc9 s k h];simp[Pl.qd1]
theorem qs1(css:Bool)(l:Int)(b:UInt8)(h0:0<=l)(h6:l<=6):0<=Pl.qcl css l b/\Pl.qcl css l b<=6:=by
 unfold Pl.qcl
 repeat' split
 all_goals omega
theorem qxz(css:Bool)(l:List UInt8):0<=Pl.qd1 css l/\Pl.qd1 css l<=6:=by
 unfold Pl.qd1;have:∀(l:List UInt8) (x:Int),0<=x->x<=6->0<=l.foldl (Pl.qcl css) x/\l.foldl (Pl.qcl css) x<=6:=by
  intro l
  induction l with
  |nil=>intro x h0 h6;exact⟨h0,h6⟩
  |cons b l ih=>
    intro x h0 h6;have:=qs1 css x b h0 h6;exact ih _ this.1 this.2
 exact this l 0 (by omega) (by omega)
theorem qmh(s:ByteArray)(css:Bool)(w:World)(hs:s.size<=4000000000000000000) :
  Calls Tryz.prog 70 #[.string s,.bool css] w fun e w'=>e=.returned (.int .i64 (Pl.qd1 css s.data.toList))/\w=w':=by
 go_enter Tryz.func70,Tryz.ntmps70
 go_wp2
 go_loop [5,6] (fun l i=>∃k:Nat,k<=s.size/\i=.int .i64 k/\l=.int .i64 (Pl.qd1 css (s.data.toList.take k))) (fun _ i=>s.size - (intOf i).toNat)
 case atStart=>exact⟨0,Nat.zero_le _,rfl,rfl⟩
 case round=>
  obtain⟨k,hk,rfl,rfl⟩:=hrel;by_cases ha:k<s.size
  ·have HS:=hd (q65 css s k ha)
   have hr:=qxz css (s.data.toList.take k);generalize Pl.qd1 css (s.data.toList.take k)=l at HS hr |-;obtain⟨hb,Hb⟩:=hr;by_cases hh:Pl.among s[k] Pl.qa2=true
   ·by_cases h1:l=1
    ·subst h1
     cases css
     ·go_wp2_with (go_at_call 80;refine(qdx s[k] _ Pl.qa2 _ rfl (by decide)).mono ?_;rintro e w' ⟨rfl,rfl⟩)
      all_goals
       go_round
       case rel=>exact⟨k+1,by omega,by go_num,by rw[HS.out];unfold Pl.qcl;first|(have e:=qkt s[k] 120 ‹_›;rw[e];rfl)|(have e:=qkt s[k] 117 ‹_›;rw[e];rfl)|(have n1:=qhd s[k] 120 ‹_›;have n2:=qhd s[k] 117 ‹_›;simp[n1,n2])⟩
       case measure=>simp[intOf];omega
     ·go_wp2_with (go_at_call 80;refine(qdx s[k] _ Pl.qa2 _ rfl (by decide)).mono ?_;rintro e w' ⟨rfl,rfl⟩)
      all_goals
       go_round
       case rel=>exact⟨k+1,by omega,by go_num,by rw[HS.out];unfold Pl.qcl;simp[hh]⟩
       case measure=>simp[intOf];omega
    ·have Ha:(l==1)=false:=beq_eq_false_iff_ne.2 h1
     by_cases h2:1<l
     ·go_wp2_with (go_at_call 80;refine(qdx s[k] _ Pl.qa2 _ rfl (by decide)).mono ?_;rintro e w' ⟨rfl,rfl⟩)
      all_goals
       go_round
       case rel=>exact⟨k+1,by omega,by go_num,by rw[HS.out];unfold Pl.qcl;rw[if_neg h1,if_pos ⟨h2,hh⟩];first|(rw[if_pos (beq_iff_eq.1 ‹(l - 1==1)=true›)])|(rw[if_neg (beq_eq_false_iff_ne.1 ‹(l - 1==1)=false›)])⟩
       case measure=>simp[intOf];omega
     ·have hc:decide (1<l)=false:=decide_eq_false h2
      go_wp2_with (go_at_call 80;refine(qdx s[k] _ Pl.qa2 _ rfl (by decide)).mono ?_;rintro e w' ⟨rfl,rfl⟩)
      all_goals
       go_round
       case rel=>exact⟨k+1,by omega,by go_num,by rw[HS.out];unfold Pl.qcl;rw[if_neg h1,if_neg (fun q=>absurd q.1 (by omega))];first|(rw[if_pos (qkt s[k] 92 ‹_›)])|(rw[if_neg (qhd s[k] 92 ‹_›)])⟩
       case measure=>simp[intOf];omega
   ·have hh:=Bool.eq_false_iff.2 hh
    by_cases h1:l=1
    ·subst h1
     cases css
     ·go_wp2_with (go_at_call 80;refine(qdx s[k] _ Pl.qa2 _ rfl (by decide)).mono ?_;rintro e w' ⟨rfl,rfl⟩)
      all_goals
       go_round
       case rel=>exact⟨k+1,by omega,by go_num,by rw[HS.out];unfold Pl.qcl;first|(have e:=qkt s[k] 120 ‹_›;rw[e];rfl)|(have e:=qkt s[k] 117 ‹_›;rw[e];rfl)|(have n1:=qhd s[k] 120 ‹_›;have n2:=qhd s[k] 117 ‹_›;simp[n1,n2])⟩
       case measure=>simp[intOf];omega
     ·go_wp2_with (go_at_call 80;refine(qdx s[k] _ Pl.qa2 _ rfl (by decide)).mono ?_;rintro e w' ⟨rfl,rfl⟩)
      all_goals
       go_round
       case rel=>exact⟨k+1,by omega,by go_num,by rw[HS.out];unfold Pl.qcl;simp[hh]⟩
       case measure=>simp[intOf];omega
    ·have Ha:(l==1)=false:=beq_eq_false_iff_ne.2 h1
     go_wp2_with (go_at_call 80;refine(qdx s[k] _ Pl.qa2 _ rfl (by decide)).mono ?_;rintro e w' ⟨rfl,rfl⟩)
     all_goals
      go_round
      case rel=>exact⟨k+1,by omega,by go_num,by rw[HS.out];unfold Pl.qcl;rw[if_neg h1,if_neg (fun q=>by rw[hh]at q;cases q.2)];first|(rw[if_pos (qkt s[k] 92 ‹_›)])|(rw[if_neg (qhd s[k] 92 ‹_›)])⟩
      case measure=>simp[intOf];omega
  ·go_wp2
   go_ret
   exact⟨qan (by rw[Pl.qeu s k (by omega)]),rfl⟩
end Go.Proofs.YtfkhljmiehdgmaaGreatDoor
namespace Go.Proofs.YtfkhljmiehdgmaaGreatDoor.Pl
def qah:List UInt8:=[9,10,12,13,32]
def qdp:List UInt8:=[9,12,13,32]
def qcy(b:UInt8):Bool:=b==95 || (qjb b || (decide (97<=b.toNat) && decide (b.toNat<=122)))
def qa6(l:List UInt8):Bool:=!l.isEmpty && (decide (l.length<=8) && l.all qcy)
def isNm(l:List UInt8):Bool:=l==[46] || (decide ((Go.Lib.split l [46]).length<=4) && (Go.Lib.split l [46]).all qa6)
structure Tg where
 kind:Nat
 slip:Nat
 name:List UInt8
 op:List UInt8
 cl:List UInt8
def qa0:List UInt8->Nat
 |[]=>2
 |b::_=>if b=33 then 7 else if b=61 then 8 else if b=35 then 3 else if b=94 then 4 else if b=47 then 5 else if b=62 then 6 else 2
def qca(kind:Nat)(n:List UInt8):Tg:=if(if kind=6 then qa6 n else isNm n)=true then⟨kind,0,n,[],[]⟩else⟨kind,3,[],[],[]⟩
def qbn:List UInt8->List UInt8->List (List UInt8)
 |cur,[]=>if cur=[]then[]else[cur]
 |cur,b::l=>if among b qah=true then(if cur=[]then qbn [] l else cur::qbn [] l)else qbn (cur++[b]) l
def qfq(l:List UInt8):List (List UInt8):=qbn [] l
def qd7(l:List UInt8):Bool:=decide (l.length<=3) && !(among 61 l)
def qdc(c:List UInt8):Tg:=
 if Go.Lib.hasSuffix (c.drop 1) [61]=false then⟨8,4,[],[],[]⟩else
 match qfq (Go.Lib.trimSuffix (c.drop 1) [61])with
 |[a,b]=>if qd7 a=true/\qd7 b=true then⟨8,0,[],a,b⟩else⟨8,4,[],[],[]⟩
 |_=>⟨8,4,[],[],[]⟩
def qa9(c:List UInt8):Tg:=
 if qa0 c=7 then⟨7,0,[],[],[]⟩else if qa0 c=8 then qdc c else if qa0 c=2 then qca 2 c
 else qca (qa0 c) (Go.Lib.trimLeftS (c.drop 1) qah)
structure Pt where
 kind:Nat
 pos:Nat
 text:List UInt8
 mate:Nat
structure Ct where
 op:List UInt8
 cl:List UInt8
 parts:List Pt
 opened:List Nat
def qeg(t:List UInt8)(a z:Nat):Nat×Nat:=
 if(Go.Lib.trimRightS (t.take a) qdp).getLast?.any (·!= 10) || (Go.Lib.trimLeftS (t.drop z) qdp).head?.any (·!= 10)then(a,z)
 else((Go.Lib.trimRightS (t.take a) qdp).length,t.length - (Go.Lib.trimPrefix (Go.Lib.trimLeftS (t.drop z) qdp) [10]).length)
def Ct.addText(c:Ct)(t:List UInt8)(a z:Nat):Ct:=if a<z then { c with parts:=c.parts++[⟨1,a,(t.drop a).take (z - a),0⟩] } else c
def qbc(l:List Pt)(m n:Nat):List Pt:=l.modify m fun p=>{ p with mate:=n }
def qlb(l:List Pt)(m:Nat):List UInt8:=match l[m]? with
 |some p=>p.text
 |none=>[]
def qi4(l:List Pt)(m:Nat):Nat:=match l[m]? with
 |some p=>p.pos
 |none=>0
def Ct.take(c:Ct)(one:Tg)(a:Nat):Nat×Ct:=
 if one.slip≠0 then(one.slip,c)
 else if one.kind=7 then(0,c)
 else if one.kind=8 then(0,{ c with op:=one.op,cl:=one.cl })
 else if one.kind=3\/one.kind=4 then
  (if c.opened.length=6 then(8,c)else(0,{ c with parts:=c.parts++[⟨one.kind,a,one.name,0⟩],opened:=c.opened++[c.parts.length] }))
 else if one.kind=5 then
  (match c.opened.getLast? with
   |none=>(5,c)
   |some m=>if qlb c.parts m≠one.name then(6,c)else(0,{ c with parts:=qbc c.parts m c.parts.length++[⟨5,a,one.name,m⟩],opened:=c.opened.dropLast }))
 else(0,{ c with parts:=c.parts++[⟨one.kind,a,one.name,0⟩] })
def Ct.left(c:Ct):Nat×Nat:=match c.opened.getLast? with
 |none=>(0,0)
 |some m=>(7,qi4 c.parts m)
inductive Tagged where
 |slip (kind pos:Nat)
 |over (c:Ct)
 |next (c:Ct) (a:Nat)
def Ct.step(c:Ct)(t:List UInt8)(a:Nat):Tagged:=
 if(Go.Lib.cut (t.drop a) c.op).2.2=false then .over (c.addText t a t.length)
 else
  let at_:=a+(Go.Lib.cut (t.drop a) c.op).1.length
  let rest:=(Go.Lib.cut (t.drop a) c.op).2.1
  if(Go.Lib.cut rest c.cl).2.2=false then .slip 2 at_
  else
   let inner:=(Go.Lib.cut rest c.cl).1
   let tz:=at_+c.op.length+inner.length+c.cl.length
   let one:=qa9 (Go.Lib.trimS inner qah)
   let o:=if one.kind≠2 then qeg t at_ tz else(at_,tz)
   let r:=(c.addText t a o.1).take one at_
   if r.1≠0 then .slip r.1 at_ else .next r.2 o.2
def Ct.go(t:List UInt8):Nat->Ct->Nat->(Nat×Nat)×List Pt
 |0,_,_=>((0,0),[])
 |n+1,c,a=>match c.step t a with
   |.slip k p=>((k,p),[])
   |.over d=>(d.left,d.parts)
   |.next d b=>Ct.go t n d b
def Ct.start:Ct:=⟨[123,123],[125,125],[],[]⟩
def qam(t:List UInt8):(Nat×Nat)×List Pt:=if 2000<t.length then((1,0),[])else
 if(Ct.go t (t.length+1) Ct.start 0).1.1=0 then((0,0),(Ct.go t (t.length+1) Ct.start 0).2)else((Ct.go t (t.length+1) Ct.start 0).1,[])
def hexB:List UInt8:=[48,49,50,51,52,53,54,55,56,57,97,98,99,100,101,102,65,66,67,68,69,70]
def qe1:List (Nat×Nat×List UInt8×Int):=[(21,23,[120],2),(21,23,[117],4),(29,30,hexB,5)]
structure Mk where
 ref:Bool
 hex:Int
 pct:Int
 far:Int
def Mk.none:Mk:=⟨false,0,0,0⟩
structure Sx where
 st:St
 ma:Mk
def qdt(left:Int)(b:UInt8):Int:=if 0<left/\among b hexB=true then left - 1 else 0
def quy(b:UInt8):Bool:=qc2 b || (qjb b || b==35)
def qat(m:Nat):Int:=if m=1\/m=19\/m=8\/m=9 then 1 else if m=21\/m=22 then 4 else if m=29\/m=30 then 5 else 0
def qba(kind:Int)(m:Nat):Bool:=kind==1 && (m==8 || m==9)
def qhg:List UInt8:=[47,63,35,58]
def qbv(kind:Int)(m:Nat)(far:Int)(b:UInt8):Bool:=b==58 && (qba kind m && far==2)
def qdu(kind:Int)(m:Nat)(far:Int)(b:UInt8):Int:=if qbv kind m far b=true then 2 else if among b qhg=true then 3 else if far=0 then 1 else far
def qcd(kind:Int)(m:Nat)(k:Mk)(b:UInt8):Mk:=
 ⟨if qat m=1 then b==38 || (k.ref && quy b)else false,qdt k.hex b,if qba kind m=true then(if b=37 then 2 else qdt k.pct b)else 0,if qba kind m=true then qdu kind m k.far b else 0⟩
def qdo(m:Nat)(b:UInt8)(r:Nat×Nat×List UInt8×Int):Bool:=decide (r.1<=m) && (decide (m<=r.2.1) && among b r.2.2.1)
def qa7(m:Nat)(esc:Bool)(b:UInt8):Mk:=if esc=false then Mk.none else match qe1.find? (qdo m b)with
 |some r=>⟨false,r.2.2.2,0,0⟩
 |Option.none=>Mk.none
def qlj(s:St)(k:Mk)(t:Nat)(b:UInt8):Mk:=if t=s.mode/\t≠34 then qcd s.kind s.mode k b else Mk.none
def Sx.led(x:Sx)(t:Nat)(b:UInt8):Sx:=⟨x.st.led t b,qlj x.st x.ma t b⟩
def qko(s:St)(k:Mk)(b:UInt8):Mk:=if(qa3.getD s.mode false && (s.esc || b==92))=true then qa7 s.mode s.esc b else qlj ⟨qbw s.mode b,s.name,s.elem,s.kind,s.read,s.esc⟩ k (qde s.mode b) b
def qey(s:St)(k:Mk)(b:UInt8):Mk:=if 19<=s.mode/\s.ends b=true then Mk.none else qko s k b
def Sx.behind(x:Sx)(b:UInt8):Sx:=⟨x.st.behind b,qey x.st x.ma b⟩
def Sx.start:Sx:=⟨St.start,Mk.none⟩
def qav(x:Sx)(l:List UInt8):Sx:=l.foldl Sx.behind x
theorem q2w(l:List UInt8):∀x:Sx,(qav x l).st=qtz x.st l:=by
 induction l with
 |nil=>intro x;rfl
 |cons b l ih=>intro x;exact ih (x.behind b)
theorem qkg(x:Sx)(l:List UInt8)(b:UInt8):qav x (l++[b])=(qav x l).behind b:=by simp[qav]
end Go.Proofs.YtfkhljmiehdgmaaGreatDoor.Pl
namespace Go.Proofs.YtfkhljmiehdgmaaGreatDoor
open Go.RowKit
variable{w w':World}{g:Nat}{l:List Value}
def bs(l:List UInt8):Value:=.string ⟨l.toArray⟩
def qiy(l:List Pl.Step):List Value:=l.flatMap fun r=>[.int .u8 (r.1:Int),bs r.2.1,.int .u8 (r.2.2:Int)]
def qhz(l:List Nat):List Value:=l.map fun(m:Nat)=>Value.int .u8 ((m:Nat):Int)
def qls(l:List Bool):List Value:=l.map fun m=>.bool m
def qpf:List Value:=Pl.qmi.flatMap fun r=>[bs r.1,.int .u8 (r.2:Int)]
def qo4:List Value:=Pl.qe1.flatMap fun r=>[.int .u8 (r.1:Int),.int .u8 (r.2.1:Int),bs r.2.2.1,.int .i64 r.2.2.2]
def qpr:List Value:=Pl.qdv.flatMap fun r=>[bs r.1,.bool r.2.1,.int .i64 r.2.2]
def Lies(w:World)(g:Nat)(l:List Value):Prop:=∀(j:Nat) (v:Value),l[j]?=some v->w.cell? ⟨g,j,none⟩=some v
theorem Lies.lt(h:Lies w g l)(hl:0<l.length):g<w.heap.size:=by
 have:=h 0 l[0] (by simp[hl]);rcases Nat.lt_or_ge g w.heap.size with h'|h'
 ·exact h'
 ·simp[World.cell?,Array.getElem?_eq_none h']at this
theorem Lies.kept{B:Nat}(h:Lies w g l)(hb:Below B w w')(hB:g<B):Lies w' g l:=fun j v hv=>(hb.cell (p:=⟨g,j,none⟩) hB).trans (h j v hv)
structure PTabs(w:World):Prop where
 mt:Lies w 4 (qiy Pl.qbs)
 ct:Lies w 5 (qiy Pl.qbf)
 rd:Lies w 1 (qhz Pl.qed)
 ot:Lies w 2 (qhz Pl.qes)
 es:Lies w 0 (qls Pl.qa3)
 el:Lies w 6 qpf
 at':Lies w 10 qpr
 le:Lies w 3 qo4
theorem PTabs.lt(h:PTabs w):4<w.heap.size/\5<w.heap.size/\1<w.heap.size/\2<w.heap.size/\0<w.heap.size/\6<w.heap.size/\10<w.heap.size/\3<w.heap.size:=
 ⟨h.mt.lt (by decide),h.ct.lt (by decide),h.rd.lt (by decide),h.ot.lt (by decide),h.es.lt (by decide),h.el.lt (by decide),h.at'.lt (by decide),h.le.lt (by decide)⟩
theorem PTabs.kept(h:PTabs w)(hb:Below w.heap.size w w'):PTabs w':=by
 obtain⟨h1,h2,h3,h4,h5,h6,h7,h8⟩:=h.lt;exact⟨h.mt.kept hb h1,h.ct.kept hb h2,h.rd.kept hb h3,h.ot.kept hb h4,h.es.kept hb h5,h.el.kept hb h6,h.at'.kept hb h7,h.le.kept hb h8⟩
theorem PTabs.kept'{w0:World}(h:PTabs w)(h0:PTabs w0)(hb:Below w0.heap.size w w'):PTabs w':=by
 obtain⟨h1,h2,h3,h4,h5,h6,h7,h8⟩:=h0.lt;exact⟨h.mt.kept hb h1,h.ct.kept hb h2,h.rd.kept hb h3,h.ot.kept hb h4,h.es.kept hb h5,h.el.kept hb h6,h.at'.kept hb h7,h.le.kept hb h8⟩
theorem PTabs.alloc(h:PTabs w)(o:Obj):PTabs (w.alloc o):=h.kept ((Below.refl _ w).alloc (Nat.le_refl _) o)
theorem PTabs.drew(h:PTabs w):PTabs w.drew:=⟨h.mt,h.ct,h.rd,h.ot,h.es,h.el,h.at',h.le⟩
theorem PTabs.drewN(h:PTabs w)(n:Nat):PTabs (w.drewN n):=⟨h.mt,h.ct,h.rd,h.ot,h.es,h.el,h.at',h.le⟩
theorem q9s{α:Type}(f:α->Value)(g:α->Value)(h:α->Value):∀(l:List α) (k:Nat) (x:α),l[k]?=some x ->
  (l.flatMap fun r=>[f r,g r,h r])[3*k]?=some (f x)/\(l.flatMap fun r=>[f r,g r,h r])[3*k+1]?=some (g x)/\(l.flatMap fun r=>[f r,g r,h r])[3*k+2]?=some (h x)
 |[],k,x,e=>by simp at e
 |y::l,0,x,e=>by
   simp only[List.getElem?_cons_zero,Option.some.injEq]at e;subst e;exact⟨rfl,rfl,rfl⟩
 |y::l,k+1,x,e=>by
   have:=q9s f g h l k x (by simpa using e);simp only[List.flatMap_cons,show 3*(k+1)=3*k+3 by omega];exact this
theorem q9t{α:Type}(f:α->Value)(g:α->Value):∀(l:List α) (k:Nat) (x:α),l[k]?=some x ->
  (l.flatMap fun r=>[f r,g r])[2*k]?=some (f x)/\(l.flatMap fun r=>[f r,g r])[2*k+1]?=some (g x)
 |[],k,x,e=>by simp at e
 |y::l,0,x,e=>by
   simp only[List.getElem?_cons_zero,Option.some.injEq]at e;subst e;exact⟨rfl,rfl⟩
 |y::l,k+1,x,e=>by
   have:=q9t f g l k x (by simpa using e);simp only[List.flatMap_cons,show 2*(k+1)=2*k+2 by omega];exact this
theorem qyu{l:List Pl.Step}(h:Lies w g (qiy l))(k:Nat)(r:Pl.Step)(hk:l[k]?=some r) :
  w.cell? ⟨g,k*3,none⟩=some (.int .u8 (r.1:Int))/\w.cell? ⟨g,k*3+1,none⟩=some (bs r.2.1)/\w.cell? ⟨g,k*3+2,none⟩=some (.int .u8 (r.2.2:Int)):=by
 obtain⟨a,b,c⟩:=q9s (fun r:Pl.Step=>Value.int .u8 (r.1:Int)) (fun r=>bs r.2.1) (fun r=>.int .u8 (r.2.2:Int)) l k r hk;rw[Nat.mul_comm k 3];exact⟨h _ _ a,h _ _ b,h _ _ c⟩
theorem qex(h:Lies w 6 qpf)(k:Nat)(r:List UInt8×Nat)(hk:Pl.qmi[k]?=some r) :
  w.cell? ⟨6,2*k,none⟩=some (bs r.1)/\w.cell? ⟨6,2*k+1,none⟩=some (.int .u8 (r.2:Int)):=by
 obtain⟨a,b⟩:=q9t (fun r:List UInt8×Nat=>bs r.1) (fun r=>Value.int .u8 (r.2:Int)) Pl.qmi k r hk;exact⟨h _ _ a,h _ _ b⟩
theorem qlu(h:Lies w 10 qpr)(k:Nat)(r:List UInt8×Bool×Int)(hk:Pl.qdv[k]?=some r) :
  w.cell? ⟨10,3*k,none⟩=some (bs r.1)/\w.cell? ⟨10,3*k+1,none⟩=some (.bool r.2.1)/\w.cell? ⟨10,3*k+2,none⟩=some (.int .i64 r.2.2):=by
 obtain⟨a,b,c⟩:=q9s (fun r:List UInt8×Bool×Int=>bs r.1) (fun r=>Value.bool r.2.1) (fun r=>.int .i64 r.2.2) Pl.qdv k r hk;exact⟨h _ _ a,h _ _ b,h _ _ c⟩
theorem zat{α:Type}(f:α->Value)(g:α->Value)(h:α->Value)(i:α->Value):∀(l:List α) (k:Nat) (x:α),l[k]?=some x ->
  (l.flatMap fun r=>[f r,g r,h r,i r])[4*k]?=some (f x)/\(l.flatMap fun r=>[f r,g r,h r,i r])[4*k+1]?=some (g x)/\(l.flatMap fun r=>[f r,g r,h r,i r])[4*k+2]?=some (h x)/\(l.flatMap fun r=>[f r,g r,h r,i r])[4*k+3]?=some (i x)
 |[],k,x,e=>by simp at e
 |y::l,0,x,e=>by
   simp only[List.getElem?_cons_zero,Option.some.injEq]at e;subst e;exact⟨rfl,rfl,rfl,rfl⟩
 |y::l,k+1,x,e=>by
   have:=zat f g h i l k x (by simpa using e);simp only[List.flatMap_cons,show 4*(k+1)=4*k+4 by omega];exact this
theorem q6h(h:Lies w 3 qo4)(k:Nat)(r:Nat×Nat×List UInt8×Int)(hk:Pl.qe1[k]?=some r) :
  w.cell? ⟨3,4*k,none⟩=some (.int .u8 (r.1:Int))/\w.cell? ⟨3,4*k+1,none⟩=some (.int .u8 (r.2.1:Int))/\w.cell? ⟨3,4*k+2,none⟩=some (bs r.2.2.1)/\w.cell? ⟨3,4*k+3,none⟩=some (.int .i64 r.2.2.2):=by
 obtain⟨a,b,c,d⟩:=zat (fun r:Nat×Nat×List UInt8×Int=>Value.int .u8 (r.1:Int)) (fun r=>.int .u8 (r.2.1:Int)) (fun r=>bs r.2.2.1) (fun r=>.int .i64 r.2.2.2) Pl.qe1 k r hk;exact⟨h _ _ a,h _ _ b,h _ _ c,h _ _ d⟩
theorem qsl{l:List Nat}(h:Lies w g (qhz l))(k:Nat)(hk:k<l.length):w.cell? ⟨g,k,none⟩=some (.int .u8 ((l.getD k 0:Nat):Int)):=by
 refine h _ _ ?_;simp[qhz,List.getElem?_map,List.getElem?_eq_getElem hk,List.getD_eq_getElem?_getD]
theorem q7j{l:List Bool}(h:Lies w g (qls l))(k:Nat)(hk:k<l.length):w.cell? ⟨g,k,none⟩=some (.bool (l.getD k false)):=by
 refine h _ _ ?_;simp[qls,List.getElem?_map,List.getElem?_eq_getElem hk,List.getD_eq_getElem?_getD]
theorem qev(s:ByteArray)(k:Nat)(h:k<s.size):s.data.toList[k]?=some s[k]:=by
 rw[List.getElem?_eq_getElem (by simpa using h)];rfl
namespace Pl
def qds(s x:List UInt8)(a:Nat):Int:=if Go.Lib.index (s.drop a) x<0 then -1 else a+Go.Lib.index (s.drop a) x
theorem q7w(s x:ByteArray)(k:Nat):Go.Lib.occAt s.data.toList x.data.toList k=((s.extract k (k+x.size)).toList==x.toList):=by
 have e1:(s.extract k (k+x.size)).toList=(s.data.toList.drop k).take x.size:=by
  rw[ByteArray.toList_eq,ByteArray.data_extract,Array.toList_extract,List.extract_eq_take_drop]
  congr 1;omega
 rw[e1,ByteArray.toList_eq,Bool.eq_iff_iff,beq_iff_eq];unfold Go.Lib.occAt;rw[List.isPrefixOf_iff_prefix,List.prefix_iff_eq_take];exact⟨fun q=>q.symm,fun q=>q.symm⟩
theorem qsg(s x:List UInt8)(a j:Nat):Go.Lib.occAt (s.drop a) x j=Go.Lib.occAt s x (a+j):=by
 unfold Go.Lib.occAt;rw[List.drop_drop]
theorem q6b(s x:List UInt8)(j:Nat)(h:s.length<j+x.length)(hj:j<=s.length):Go.Lib.occAt s x j=false:=by
 unfold Go.Lib.occAt;rw[Bool.eq_false_iff];intro q;have:=(List.isPrefixOf_iff_prefix.1 q).length_le;rw[List.length_drop]at this;omega
theorem q6z(s x:List UInt8)(a k:Nat)(ha:a<=k)(hk:k<=s.length)(hn:∀j,a<=j->j<k->Go.Lib.occAt s x j=false)(h:Go.Lib.occAt s x k=true):qds s x a=k:=by
 have e:Go.Lib.index (s.drop a) x=((k - a:Nat):Int):=Go.Lib.index_first (by rw[List.length_drop];omega) (by rw[qsg];rwa [Nat.add_sub_cancel' ha]) (fun j hj=>by rw[qsg];exact hn _ (by omega) (by omega));unfold qds;rw[e,if_neg (by omega)];omega
theorem qu4(s x:List UInt8)(a:Nat)(ha:a<=s.length)(hn:∀j,a<=j->j+x.length<=s.length->Go.Lib.occAt s x j=false):qds s x a=-1:=by
 have e:Go.Lib.index (s.drop a) x=-1:=Go.Lib.index_none (fun j hj=>by
  rw[qsg];rw[List.length_drop]at hj;by_cases q:a+j+x.length<=s.length
  ·exact hn _ (by omega) q
  ·exact q6b _ _ _ (by omega) (by omega))
 unfold qds;rw[e,if_pos (by omega)]
end Pl
theorem qrc(s x:ByteArray)(a:Nat)(w:World)(hs:s.size<=1000000)(hx:x.size<=1000000)(ha:a<=s.size) :
  Calls Tryz.prog 81 #[.string s,.string x,.int .i64 a] w fun e w'=>e=.returned (.int .i64 (Pl.qds s.data.toList x.data.toList a))/\w=w':=by
 go_enter Tryz.func81,Tryz.ntmps81
 go_wp2
 go_loop [7] (fun i=>∃k:Nat,a<=k/\k<=s.size+1/\i=.int .i64 k/\Hid (∀j,a<=j->j<k->Go.Lib.occAt s.data.toList x.data.toList j=false)) (fun i=>s.size+1 - (intOf i).toNat)
 case atStart=>exact⟨a,Nat.le_refl _,by omega,rfl,fun j h1 h2=>by omega⟩
 case round=>
  obtain⟨k,hb,hk,rfl,HN⟩:=hrel;by_cases hc:k+x.size<=s.size
  ·have Ha:(k:Int)+(x.size:Int)<=(s.size:Int):=by omega
   by_cases hq:(s.extract k (k+x.size)).toList==x.toList
   ·have HF:=hd (Pl.q6z s.data.toList x.data.toList a k hb (by show k<=s.size;omega) HN.out (by rw[Pl.q7w s x k];exact hq))
    clear HN;go_wp2
    go_ret
    exact⟨by rw[HF.out];rfl,rfl⟩
   ·have hq:=Bool.eq_false_iff.2 hq
    have Hb:Hid (∀j,a<=j->j<k+1->Go.Lib.occAt s.data.toList x.data.toList j=false):=by
     intro j h1 h2;by_cases e:j=k
     ·subst e;rw[Pl.q7w s x j];exact hq
     ·exact HN.out j h1 (by omega)
    clear HN;go_wp2
    go_round
    case rel=>exact⟨k+1,by omega,by omega,by go_num,Hb⟩
    case measure=>simp[intOf];omega
  ·have HF:=hd (Pl.qu4 s.data.toList x.data.toList a ha (fun j h1 h2=>HN.out j h1 (by have e1:s.data.toList.length=s.size:=rfl;have e2:x.data.toList.length=x.size:=rfl;omega)))
   clear HN;have Ha:decide ((k:Int)+(x.size:Int)<=(s.size:Int))=false:=by rw[decide_eq_false_iff_not];omega
   go_wp2
   go_ret
   exact⟨by rw[HF.out];rfl,rfl⟩
theorem qln(b:UInt8):Pl.among b [97,98,99,100,101,102,103,104,105,106,107,108,109,110,111,112,113,114,115,116,117,118,119,120,121,122,48,49,50,51,52,53,54,55,56,57,95]=Pl.qcy b:=by
 have:∀n∈List.range 256,Pl.among (UInt8.ofNat n) [97,98,99,100,101,102,103,104,105,106,107,108,109,110,111,112,113,114,115,116,117,118,119,120,121,122,48,49,50,51,52,53,54,55,56,57,95]=Pl.qcy (UInt8.ofNat n):=by decide +kernel
 have:=this b.toNat (List.mem_range.2 b.toNat_lt)
 rwa [UInt8.ofNat_toNat]at this
theorem q4w(s:ByteArray)(f:UInt8->Bool)(k:Nat)(h:k<s.size):(s.data.toList.take (k+1)).all f=((s.data.toList.take k).all f && f s[k]):=by
 rw[Pl.qc9 s k h,List.all_append];simp
theorem qpg(s:ByteArray)(w:World)(hs:s.size<=1000000000) :
  Calls Tryz.prog 52 #[.string s] w fun e w'=>e=.returned (.bool (Pl.qa6 s.data.toList))/\w=w':=by
 go_enter Tryz.func52,Tryz.ntmps52
 go_wp2
 go_loop [3] (fun i=>∃k:Nat,k<=s.size/\i=.int .i64 k/\Hid ((s.data.toList.take k).all Pl.qcy=true)) (fun i=>s.size - (intOf i).toNat)
 case atStart=>exact⟨0,Nat.zero_le _,rfl,by show _=_;rfl⟩
 case round=>
  obtain⟨k,hk,rfl,HN⟩:=hrel;by_cases Hb:k<s.size
  ·have Ha:(k:Int)<(s.size:Int):=by omega
   have HA:=hd (q4w s Pl.qcy k Hb);by_cases hb:Pl.qcy s[k]=true
   ·go_wp2_with (go_at_call 80;refine(qdx s[k] _ _ _ rfl (by decide)).mono ?_;rintro e w' ⟨rfl,rfl⟩;rw[qln,hb])
    go_round
    case rel=>exact⟨k+1,by omega,by go_num,by show _=_;rw[HA.out,HN.out,hb];rfl⟩
    case measure=>simp[intOf];omega
   ·have hb:=Bool.eq_false_iff.2 hb
    have HF:Hid (Pl.qa6 s.data.toList=false):=by
     show _=_;have:s.data.toList.all Pl.qcy=false:=by
      rw[Bool.eq_false_iff];intro q;have:=List.all_eq_true.1 q s[k] (List.mem_of_getElem? (qev s k Hb));rw[hb]at this;cases this
     unfold Pl.qa6;rw[this];simp
    go_wp2_with (go_at_call 80;refine(qdx s[k] _ _ _ rfl (by decide)).mono ?_;rintro e w' ⟨rfl,rfl⟩;rw[qln,hb])
    go_ret
    exact⟨by rw[HF.out];rfl,rfl⟩
  ·have Ha:decide ((k:Int)<(s.size:Int))=false:=by rw[decide_eq_false_iff_not];omega
   have ha:s.data.toList.all Pl.qcy=true:=by have:=HN.out;rwa [Pl.qeu s k (by omega)]at this
   have HF:Hid (Pl.qa6 s.data.toList=(decide (1<=s.size) && decide (s.size<=8))):=by
    show _=_;unfold Pl.qa6;rw[ha,Bool.and_true];have e:s.data.toList.length=s.size:=rfl;rw[e]
    congr 1
    cases h:s.data.toList with
    |nil=>rw[h]at e;simp at e;simp[<-e]
    |cons b l=>rw[h]at e;simp at e;simp;omega
   clear HN ha;by_cases h1:1<=s.size
   ·by_cases h2:s.size<=8
    ·have q1:(s.size:Int)≥1:=by omega
     have q2:(s.size:Int)<=8:=by omega
     go_wp2
     go_ret
     exact⟨by rw[HF.out,decide_eq_true h1,decide_eq_true h2];rfl,rfl⟩
    ·have q1:(s.size:Int)≥1:=by omega
     have q2:decide ((s.size:Int)<=8)=false:=by rw[decide_eq_false_iff_not];omega
     go_wp2
     go_ret
     exact⟨by rw[HF.out,decide_eq_true h1,decide_eq_false h2];rfl,rfl⟩
   ·have q1:decide ((s.size:Int)≥1)=false:=by rw[decide_eq_false_iff_not];omega
    go_wp2
    go_ret
    exact⟨by rw[HF.out,decide_eq_false h1];rfl,rfl⟩
theorem qfz(s:ByteArray)(w:World)(hs:s.size<=1000000) :
  Calls Tryz.prog 52 #[.string s] w fun e w'=>e=.returned (.bool (Pl.qa6 s.data.toList))/\w=w':=qpg s w (by omega)
end Go.Proofs.YtfkhljmiehdgmaaGreatDoor
