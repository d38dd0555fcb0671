/-
  Steps of the proof.
-/
import Derived.Test.YtfkhljmiehdgmaaGreatDoorCmAA
import Derived.BigRegion
import Derived.Lib.IndexMore
import Derived.Lib.IndexLaws
set_option maxRecDepth 100000
set_option maxHeartbeats 40000000
namespace Go.Proofs.YtfkhljmiehdgmaaGreatDoor.Pl
def hexB:List UInt8:=[48,49,50,51,52,53,54,55,56,57,97,98,99,100,101,102,65,66,67,68,69,70]
def qey:List (Nat×Nat×List UInt8×Int):=[(21,23,[120],2),(21,23,[117],4),(29,30,hexB,5)]
structure Mk where
 ref:Bool
 hex:Int
 pct:Int
 far:Int
def Mk.none:Mk:=⟨false,0,0,0⟩
structure Sx where
 st:St
 ma:Mk
def qdq(left:Int)(b:UInt8):Int:=if 0<left∧among b hexB=true then left - 1 else 0
def quk(b:UInt8):Bool:=qc0 b || (qi8 b || b==35)
def qas(m:Nat):Int:=if m=1∨m=19∨m=8∨m=9 then 1 else if m=21∨m=22 then 4 else if m=29∨m=30 then 5 else 0
def qba(kind:Int)(m:Nat):Bool:=kind==1 && (m==8 || m==9)
def qhe:List UInt8:=[47,63,35,58]
def qbv(kind:Int)(m:Nat)(far:Int)(b:UInt8):Bool:=b==58 && (qba kind m && far==2)
def qdr(kind:Int)(m:Nat)(far:Int)(b:UInt8):Int:=if qbv kind m far b=true then 2 else if among b qhe=true then 3 else if far=0 then 1 else far
def qcd(kind:Int)(m:Nat)(k:Mk)(b:UInt8):Mk:=
 ⟨if qas m=1 then b==38 || (k.ref && quk b) else false,qdq k.hex b,if qba kind m=true then(if b=37 then 2 else qdq k.pct b) else 0,if qba kind m=true then qdr kind m k.far b else 0⟩
def qdl(m:Nat)(b:UInt8)(r:Nat×Nat×List UInt8×Int):Bool:=decide (r.1≤m) && (decide (m≤r.2.1) && among b r.2.2.1)
def qa7(m:Nat)(esc:Bool)(b:UInt8):Mk:=if esc=false then Mk.none else match qey.find? (qdl m b) with
 | some r=>⟨false,r.2.2.2,0,0⟩
 | Option.none=>Mk.none
def qle(s:St)(k:Mk)(t:Nat)(b:UInt8):Mk:=if t=s.mode∧t≠34 then qcd s.kind s.mode k b else Mk.none
def Sx.led(x:Sx)(t:Nat)(b:UInt8):Sx:=⟨x.st.led t b,qle x.st x.ma t b⟩
def qkk(s:St)(k:Mk)(b:UInt8):Mk:=if(qa3.getD s.mode false && (s.esc || b==92))=true then qa7 s.mode s.esc b else qle ⟨qbw s.mode b,s.name,s.elem,s.kind,s.read,s.esc⟩ k (qdc s.mode b) b
def qev(s:St)(k:Mk)(b:UInt8):Mk:=if 19≤s.mode∧s.ends b=true then Mk.none else qkk s k b
def Sx.behind(x:Sx)(b:UInt8):Sx:=⟨x.st.behind b,qev x.st x.ma b⟩
def Sx.start:Sx:=⟨St.start,Mk.none⟩
def qaw(x:Sx)(l:List UInt8):Sx:=l.foldl Sx.behind x
theorem qod(x:Sx)(l:List UInt8)(b:UInt8):qaw x (l++[b])=(qaw x l).behind b:=by simp[qaw]
end Go.Proofs.YtfkhljmiehdgmaaGreatDoor.Pl
namespace Go.Proofs.YtfkhljmiehdgmaaGreatDoor
open Go.RowKit
def bs(l:List UInt8):Value:=.string ⟨l.toArray⟩
def qiv(l:List Pl.Step):List Value:=l.flatMap fun r=>[.int .u8 (r.1:Int),bs r.2.1,.int .u8 (r.2.2:Int)]
def qhx(l:List Nat):List Value:=l.map fun(m:Nat)=>Value.int .u8 ((m:Nat):Int)
def qlm(l:List Bool):List Value:=l.map fun m=>.bool m
def qo8:List Value:=Pl.qmc.flatMap fun r=>[bs r.1,.int .u8 (r.2:Int)]
def qox:List Value:=Pl.qey.flatMap fun r=>[.int .u8 (r.1:Int),.int .u8 (r.2.1:Int),bs r.2.2.1,.int .i64 r.2.2.2]
def qpk:List Value:=Pl.qds.flatMap fun r=>[bs r.1,.bool r.2.1,.int .i64 r.2.2]
def Lies(w:World)(g:Nat)(l:List Value):Prop:=∀(j:Nat) (v:Value),l[j]?=some v→w.cell? ⟨g,j,none⟩=some v
theorem Lies.lt{w:World}{g:Nat}{l:List Value}(h:Lies w g l)(hl:0<l.length):g<w.heap.size:=by
 have:=h 0 l[0] (by simp[hl]);rcases Nat.lt_or_ge g w.heap.size with h' | h'
 ·exact h'
 ·simp[World.cell?,Array.getElem?_eq_none h']at this
theorem Lies.kept{w w':World}{g B:Nat}{l:List Value}(h:Lies w g l)(hb:Below B w w')(hB:g<B):Lies w' g l:=fun j v hv=>(hb.cell (p:=⟨g,j,none⟩) hB).trans (h j v hv)
structure PTabs(w:World):Prop where
 mt:Lies w 4 (qiv Pl.qbs)
 ct:Lies w 5 (qiv Pl.qbf)
 rd:Lies w 1 (qhx Pl.qeb)
 ot:Lies w 2 (qhx Pl.qeo)
 es:Lies w 0 (qlm Pl.qa3)
 el:Lies w 6 qo8
 at':Lies w 10 qpk
 le:Lies w 3 qox
theorem PTabs.lt{w:World}(h:PTabs w):4<w.heap.size∧5<w.heap.size∧1<w.heap.size∧2<w.heap.size∧0<w.heap.size∧6<w.heap.size∧10<w.heap.size∧3<w.heap.size:=
 ⟨h.mt.lt (by decide),h.ct.lt (by decide),h.rd.lt (by decide),h.ot.lt (by decide),h.es.lt (by decide),h.el.lt (by decide),h.at'.lt (by decide),h.le.lt (by decide)⟩
theorem PTabs.kept{w w':World}(h:PTabs w)(hb:Below w.heap.size w w'):PTabs w':=by
 obtain⟨h1,h2,h3,h4,h5,h6,h7,h8⟩:=h.lt;exact⟨h.mt.kept hb h1,h.ct.kept hb h2,h.rd.kept hb h3,h.ot.kept hb h4,h.es.kept hb h5,h.el.kept hb h6,h.at'.kept hb h7,h.le.kept hb h8⟩
theorem PTabs.kept'{w0 w w':World}(h:PTabs w)(h0:PTabs w0)(hb:Below w0.heap.size w w'):PTabs w':=by
 obtain⟨h1,h2,h3,h4,h5,h6,h7,h8⟩:=h0.lt;exact⟨h.mt.kept hb h1,h.ct.kept hb h2,h.rd.kept hb h3,h.ot.kept hb h4,h.es.kept hb h5,h.el.kept hb h6,h.at'.kept hb h7,h.le.kept hb h8⟩
theorem PTabs.alloc{w:World}(h:PTabs w)(o:Obj):PTabs (w.alloc o):=h.kept ((Below.refl _ w).alloc (Nat.le_refl _) o)
theorem PTabs.drew{w:World}(h:PTabs w):PTabs w.drew:=⟨h.mt,h.ct,h.rd,h.ot,h.es,h.el,h.at',h.le⟩
theorem q9a{α:Type}(f:α→Value)(g:α→Value)(h:α→Value):∀(l:List α) (k:Nat) (x:α),l[k]?=some x →
  (l.flatMap fun r=>[f r,g r,h r])[3*k]?=some (f x)∧(l.flatMap fun r=>[f r,g r,h r])[3*k+1]?=some (g x)∧(l.flatMap fun r=>[f r,g r,h r])[3*k+2]?=some (h x)
 | [],k,x,e=>by simp at e
 | y::l,0,x,e=>by
   simp only[List.getElem?_cons_zero,Option.some.injEq]at e;subst e;exact⟨rfl,rfl,rfl⟩
 | y::l,k+1,x,e=>by
   have:=q9a f g h l k x (by simpa using e);simp only[List.flatMap_cons,show 3*(k+1)=3*k+3 by omega];exact this
theorem q9b{α:Type}(f:α→Value)(g:α→Value):∀(l:List α) (k:Nat) (x:α),l[k]?=some x →
  (l.flatMap fun r=>[f r,g r])[2*k]?=some (f x)∧(l.flatMap fun r=>[f r,g r])[2*k+1]?=some (g x)
 | [],k,x,e=>by simp at e
 | y::l,0,x,e=>by
   simp only[List.getElem?_cons_zero,Option.some.injEq]at e;subst e;exact⟨rfl,rfl⟩
 | y::l,k+1,x,e=>by
   have:=q9b f g l k x (by simpa using e);simp only[List.flatMap_cons,show 2*(k+1)=2*k+2 by omega];exact this
theorem qyh{w:World}{g:Nat}{l:List Pl.Step}(h:Lies w g (qiv l))(k:Nat)(r:Pl.Step)(hk:l[k]?=some r) :
  w.cell? ⟨g,k*3,none⟩=some (.int .u8 (r.1:Int))∧w.cell? ⟨g,k*3+1,none⟩=some (bs r.2.1)∧w.cell? ⟨g,k*3+2,none⟩=some (.int .u8 (r.2.2:Int)):=by
 obtain⟨a,b,c⟩:=q9a (fun r:Pl.Step=>Value.int .u8 (r.1:Int)) (fun r=>bs r.2.1) (fun r=>.int .u8 (r.2.2:Int)) l k r hk;rw[Nat.mul_comm k 3];exact⟨h _ _ a,h _ _ b,h _ _ c⟩
theorem qeu{w:World}(h:Lies w 6 qo8)(k:Nat)(r:List UInt8×Nat)(hk:Pl.qmc[k]?=some r) :
  w.cell? ⟨6,2*k,none⟩=some (bs r.1)∧w.cell? ⟨6,2*k+1,none⟩=some (.int .u8 (r.2:Int)):=by
 obtain⟨a,b⟩:=q9b (fun r:List UInt8×Nat=>bs r.1) (fun r=>Value.int .u8 (r.2:Int)) Pl.qmc k r hk;exact⟨h _ _ a,h _ _ b⟩
theorem qlo{w:World}(h:Lies w 10 qpk)(k:Nat)(r:List UInt8×Bool×Int)(hk:Pl.qds[k]?=some r) :
  w.cell? ⟨10,3*k,none⟩=some (bs r.1)∧w.cell? ⟨10,3*k+1,none⟩=some (.bool r.2.1)∧w.cell? ⟨10,3*k+2,none⟩=some (.int .i64 r.2.2):=by
 obtain⟨a,b,c⟩:=q9a (fun r:List UInt8×Bool×Int=>bs r.1) (fun r=>Value.bool r.2.1) (fun r=>.int .i64 r.2.2) Pl.qds k r hk;exact⟨h _ _ a,h _ _ b,h _ _ c⟩
theorem q99{α:Type}(f:α→Value)(g:α→Value)(h:α→Value)(i:α→Value):∀(l:List α) (k:Nat) (x:α),l[k]?=some x →
  (l.flatMap fun r=>[f r,g r,h r,i r])[4*k]?=some (f x)∧(l.flatMap fun r=>[f r,g r,h r,i r])[4*k+1]?=some (g x)∧(l.flatMap fun r=>[f r,g r,h r,i r])[4*k+2]?=some (h x)∧(l.flatMap fun r=>[f r,g r,h r,i r])[4*k+3]?=some (i x)
 | [],k,x,e=>by simp at e
 | y::l,0,x,e=>by
   simp only[List.getElem?_cons_zero,Option.some.injEq]at e;subst e;exact⟨rfl,rfl,rfl,rfl⟩
 | y::l,k+1,x,e=>by
   have:=q99 f g h i l k x (by simpa using e);simp only[List.flatMap_cons,show 4*(k+1)=4*k+4 by omega];exact this
theorem q51{w:World}(h:Lies w 3 qox)(k:Nat)(r:Nat×Nat×List UInt8×Int)(hk:Pl.qey[k]?=some r) :
  w.cell? ⟨3,4*k,none⟩=some (.int .u8 (r.1:Int))∧w.cell? ⟨3,4*k+1,none⟩=some (.int .u8 (r.2.1:Int))∧w.cell? ⟨3,4*k+2,none⟩=some (bs r.2.2.1)∧w.cell? ⟨3,4*k+3,none⟩=some (.int .i64 r.2.2.2):=by
 obtain⟨a,b,c,d⟩:=q99 (fun r:Nat×Nat×List UInt8×Int=>Value.int .u8 (r.1:Int)) (fun r=>.int .u8 (r.2.1:Int)) (fun r=>bs r.2.2.1) (fun r=>.int .i64 r.2.2.2) Pl.qey k r hk;exact⟨h _ _ a,h _ _ b,h _ _ c,h _ _ d⟩
theorem qsd{w:World}{g:Nat}{l:List Nat}(h:Lies w g (qhx l))(k:Nat)(hk:k<l.length):w.cell? ⟨g,k,none⟩=some (.int .u8 ((l.getD k 0:Nat):Int)):=by
 refine h _ _ ?_;simp[qhx,List.getElem?_map,List.getElem?_eq_getElem hk,List.getD_eq_getElem?_getD]
theorem q63{w:World}{g:Nat}{l:List Bool}(h:Lies w g (qlm l))(k:Nat)(hk:k<l.length):w.cell? ⟨g,k,none⟩=some (.bool (l.getD k false)):=by
 refine h _ _ ?_;simp[qlm,List.getElem?_map,List.getElem?_eq_getElem hk,List.getD_eq_getElem?_getD]
theorem qes(s:ByteArray)(k:Nat)(h:k<s.size):s.data.toList[k]?=some s[k]:=by
 rw[List.getElem?_eq_getElem (by simpa using h)];rfl
namespace Pl
def qdp(s x:List UInt8)(a:Nat):Int:=if Go.Lib.index (s.drop a) x<0 then -1 else a+Go.Lib.index (s.drop a) x
theorem q7g(s x:ByteArray)(k:Nat):Go.Lib.occAt s.data.toList x.data.toList k=((s.extract k (k+x.size)).toList==x.toList):=by
 have e1:(s.extract k (k+x.size)).toList=(s.data.toList.drop k).take x.size:=by
  rw[ByteArray.toList_eq,ByteArray.data_extract,Array.toList_extract,List.extract_eq_take_drop]
  congr 1;omega
 rw[e1,ByteArray.toList_eq,Bool.eq_iff_iff,beq_iff_eq];unfold Go.Lib.occAt;rw[List.isPrefixOf_iff_prefix,List.prefix_iff_eq_take];exact⟨fun q=>q.symm,fun q=>q.symm⟩
theorem qr8(s x:List UInt8)(a j:Nat):Go.Lib.occAt (s.drop a) x j=Go.Lib.occAt s x (a+j):=by
 unfold Go.Lib.occAt;rw[List.drop_drop]
theorem q5v(s x:List UInt8)(j:Nat)(h:s.length<j+x.length)(hj:j≤s.length):Go.Lib.occAt s x j=false:=by
 unfold Go.Lib.occAt;rw[Bool.eq_false_iff];intro q;have:=(List.isPrefixOf_iff_prefix.1 q).length_le;rw[List.length_drop]at this;omega
theorem q6j(s x:List UInt8)(a k:Nat)(ha:a≤k)(hk:k≤s.length)(hn:∀j,a≤j→j<k→Go.Lib.occAt s x j=false)(h:Go.Lib.occAt s x k=true):qdp s x a=k:=by
 have e:Go.Lib.index (s.drop a) x=((k - a:Nat):Int):=Go.Lib.index_first (by rw[List.length_drop];omega) (by rw[qr8];rwa [Nat.add_sub_cancel' ha]) (fun j hj=>by rw[qr8];exact hn _ (by omega) (by omega));unfold qdp;rw[e,if_neg (by omega)];omega
theorem quq(s x:List UInt8)(a:Nat)(ha:a≤s.length)(hn:∀j,a≤j→j+x.length≤s.length→Go.Lib.occAt s x j=false):qdp s x a=-1:=by
 have e:Go.Lib.index (s.drop a) x=-1:=Go.Lib.index_none (fun j hj=>by
  rw[qr8];rw[List.length_drop]at hj;by_cases q:a+j+x.length≤s.length
  ·exact hn _ (by omega) q
  ·exact q5v _ _ _ (by omega) (by omega))
 unfold qdp;rw[e,if_pos (by omega)]
end Pl
theorem qq4(s x:ByteArray)(a:Nat)(w:World)(hs:s.size≤1000000)(hx:x.size≤1000000)(ha:a≤s.size) :
  Calls Tryz.prog 81 #[.string s,.string x,.int .i64 a] w fun e w'=>e=.returned (.int .i64 (Pl.qdp s.data.toList x.data.toList a))∧w=w':=by
 go_enter Tryz.func81,Tryz.ntmps81
 go_wp2
 go_loop [7] (fun i=>∃k:Nat,a≤k∧k≤s.size+1∧i=.int .i64 k∧Hid (∀j,a≤j→j<k→Go.Lib.occAt s.data.toList x.data.toList j=false)) (fun i=>s.size+1 - (intOf i).toNat)
 case atStart=>exact⟨a,Nat.le_refl _,by omega,rfl,fun j h1 h2=>by omega⟩
 case round=>
  obtain⟨k,hb,hk,rfl,HN⟩:=hrel;by_cases hc:k+x.size≤s.size
  ·have Ha:(k:Int)+(x.size:Int)≤(s.size:Int):=by omega
   by_cases hq:(s.extract k (k+x.size)).toList==x.toList
   ·have HF:=hd (Pl.q6j s.data.toList x.data.toList a k hb (by show k≤s.size;omega) HN.out (by rw[Pl.q7g s x k];exact hq))
    clear HN;go_wp2
    go_ret
    exact⟨by rw[HF.out];rfl,rfl⟩
   ·have hq:=Bool.eq_false_iff.2 hq
    have Hb:Hid (∀j,a≤j→j<k+1→Go.Lib.occAt s.data.toList x.data.toList j=false):=by
     intro j h1 h2;by_cases e:j=k
     ·subst e;rw[Pl.q7g s x j];exact hq
     ·exact HN.out j h1 (by omega)
    clear HN;go_wp2
    go_round
    case rel=>exact⟨k+1,by omega,by omega,by go_num,Hb⟩
    case measure=>simp[intOf];omega
  ·have HF:=hd (Pl.quq s.data.toList x.data.toList a ha (fun j h1 h2=>HN.out j h1 (by have e1:s.data.toList.length=s.size:=rfl;have e2:x.data.toList.length=x.size:=rfl;omega)))
   clear HN;have Ha:decide ((k:Int)+(x.size:Int)≤(s.size:Int))=false:=by rw[decide_eq_false_iff_not];omega
   go_wp2
   go_ret
   exact⟨by rw[HF.out];rfl,rfl⟩
theorem qli(b:UInt8):Pl.among b [97,98,99,100,101,102,103,104,105,106,107,108,109,110,111,112,113,114,115,116,117,118,119,120,121,122,48,49,50,51,52,53,54,55,56,57,95]=Pl.qcx b:=by
 have:∀n∈List.range 256,Pl.among (UInt8.ofNat n) [97,98,99,100,101,102,103,104,105,106,107,108,109,110,111,112,113,114,115,116,117,118,119,120,121,122,48,49,50,51,52,53,54,55,56,57,95]=Pl.qcx (UInt8.ofNat n):=by decide +kernel
 have:=this b.toNat (List.mem_range.2 b.toNat_lt)
 rwa [UInt8.ofNat_toNat]at this
theorem q4h(s:ByteArray)(f:UInt8→Bool)(k:Nat)(h:k<s.size):(s.data.toList.take (k+1)).all f=((s.data.toList.take k).all f && f s[k]):=by
 rw[Pl.qd1 s k h,List.all_append];simp
theorem qo9(s:ByteArray)(w:World)(hs:s.size≤1000000000) :
  Calls Tryz.prog 52 #[.string s] w fun e w'=>e=.returned (.bool (Pl.qa6 s.data.toList))∧w=w':=by
 go_enter Tryz.func52,Tryz.ntmps52
 go_wp2
 go_loop [3] (fun i=>∃k:Nat,k≤s.size∧i=.int .i64 k∧Hid ((s.data.toList.take k).all Pl.qcx=true)) (fun i=>s.size - (intOf i).toNat)
 case atStart=>exact⟨0,Nat.zero_le _,rfl,by show _=_;rfl⟩
 case round=>
  obtain⟨k,hk,rfl,HN⟩:=hrel;by_cases Hb:k<s.size
  ·have Ha:(k:Int)<(s.size:Int):=by omega
   have HA:=hd (q4h s Pl.qcx k Hb);by_cases hb:Pl.qcx s[k]=true
   ·go_wp2_with (go_at_call 80;refine(qdu s[k] _ _ _ rfl (by decide)).mono ?_;rintro e w' ⟨rfl,rfl⟩;rw[qli,hb])
    go_round
    case rel=>exact⟨k+1,by omega,by go_num,by show _=_;rw[HA.out,HN.out,hb];rfl⟩
    case measure=>simp[intOf];omega
   ·have hb:=Bool.eq_false_iff.2 hb
    have HF:Hid (Pl.qa6 s.data.toList=false):=by
     show _=_;have:s.data.toList.all Pl.qcx=false:=by
      rw[Bool.eq_false_iff];intro q;have:=List.all_eq_true.1 q s[k] (List.mem_of_getElem? (qes s k Hb));rw[hb]at this;cases this
     unfold Pl.qa6;rw[this];simp
    go_wp2_with (go_at_call 80;refine(qdu s[k] _ _ _ rfl (by decide)).mono ?_;rintro e w' ⟨rfl,rfl⟩;rw[qli,hb])
    go_ret
    exact⟨by rw[HF.out];rfl,rfl⟩
  ·have Ha:decide ((k:Int)<(s.size:Int))=false:=by rw[decide_eq_false_iff_not];omega
   have ha:s.data.toList.all Pl.qcx=true:=by have:=HN.out;rwa [Pl.qer s k (by omega)]at this
   have HF:Hid (Pl.qa6 s.data.toList=(decide (1≤s.size) && decide (s.size≤8))):=by
    show _=_;unfold Pl.qa6;rw[ha,Bool.and_true];have e:s.data.toList.length=s.size:=rfl;rw[e]
    congr 1
    cases h:s.data.toList with
    | nil=>rw[h]at e;simp at e;simp[←e]
    | cons b l=>rw[h]at e;simp at e;simp;omega
   clear HN ha;by_cases h1:1≤s.size
   ·by_cases h2:s.size≤8
    ·have q1:(s.size:Int)≥1:=by omega
     have q2:(s.size:Int)≤8:=by omega
     go_wp2
     go_ret
     exact⟨by rw[HF.out,decide_eq_true h1,decide_eq_true h2];rfl,rfl⟩
    ·have q1:(s.size:Int)≥1:=by omega
     have q2:decide ((s.size:Int)≤8)=false:=by rw[decide_eq_false_iff_not];omega
     go_wp2
     go_ret
     exact⟨by rw[HF.out,decide_eq_true h1,decide_eq_false h2];rfl,rfl⟩
   ·have q1:decide ((s.size:Int)≥1)=false:=by rw[decide_eq_false_iff_not];omega
    go_wp2
    go_ret
    exact⟨by rw[HF.out,decide_eq_false h1];rfl,rfl⟩
theorem qfx(s:ByteArray)(w:World)(hs:s.size≤1000000) :
  Calls Tryz.prog 52 #[.string s] w fun e w'=>e=.returned (.bool (Pl.qa6 s.data.toList))∧w=w':=qo9 s w (by omega)
end Go.Proofs.YtfkhljmiehdgmaaGreatDoor
namespace Go.Proofs.YtfkhljmiehdgmaaGreatDoor.Pl
inductive Wf:Nat→List Pt→Prop
 | nil (o:Nat):Wf o []
 | leaf (o:Nat) (p:Pt) (l:List Pt):(p.kind=1∨p.kind=2∨p.kind=6)→Wf (o+1) l→Wf o (p::l)
 | sec (o:Nat) (p q:Pt) (b l:List Pt):(p.kind=3∨p.kind=4)→q.kind=5→p.mate=o+1+b.length→q.mate=o→Wf (o+1) b→Wf (o+b.length+2) l→Wf o (p::b++q::l)
inductive WfO:List Pt→List Nat→Prop
 | done (l:List Pt):Wf 0 l→WfO l []
 | opn (l:List Pt) (p:Pt) (m:List Pt) (st:List Nat):WfO l st→(p.kind=3∨p.kind=4)→Wf (l.length+1) m→WfO (l++p::m) (st++[l.length])
theorem Wf.append{o:Nat}{l m:List Pt}(h:Wf o l)(hm:Wf (o+l.length) m):Wf o (l++m):=by
 induction h with
 | nil o=>simpa using hm
 | leaf o p l hk _ ih=>
   refine .leaf o p _ hk (ih ?_);simpa [Nat.add_assoc,Nat.add_comm,Nat.add_left_comm] using hm
 | sec o p q b l hp hq h1 h2 hb _ _ ih=>
   have e:p::b++q::l++m=p::b++q::(l++m):=by simp
   rw[e];refine .sec o p q b _ hp hq h1 h2 hb (ih ?_);simpa [Nat.add_assoc,Nat.add_comm,Nat.add_left_comm] using hm
theorem Wf.one{o:Nat}(p:Pt)(hk:p.kind=1∨p.kind=2∨p.kind=6):Wf o [p]:=.leaf o p [] hk (.nil _)
theorem WfO.snoc{l:List Pt}{st:List Nat}(h:WfO l st)(p:Pt)(hk:p.kind=1∨p.kind=2∨p.kind=6):WfO (l++[p]) st:=by
 cases h with
 | done l h=>exact .done _ (h.append (.one p hk))
 | opn l q m st h hq hm=>
   have e:l++q::m++[p]=l++q::(m++[p]):=by simp
   rw[e];exact .opn l q _ st h hq (hm.append (.one p hk))
theorem WfO.push{l:List Pt}{st:List Nat}(h:WfO l st)(p:Pt)(hk:p.kind=3∨p.kind=4):WfO (l++[p]) (st++[l.length]):=.opn l p [] st h hk (.nil _)
theorem qwf(l:List Pt)(p:Pt)(m:List Pt)(n:Nat):qbc (l++p::m) l.length n=l++{ p with mate:=n }::m:=by
 unfold qbc
 induction l with
 | nil=>rfl
 | cons x l ih=>simpa using ih
theorem WfO.last{l:List Pt}{st:List Nat}(h:WfO l st)(m:Nat)(hm:st.getLast?=some m) :
  ∃(a:List Pt) (p:Pt) (b:List Pt),l=a++p::b∧m=a.length∧(p.kind=3∨p.kind=4)∧Wf (a.length+1) b∧WfO a st.dropLast:=by
 cases h with
 | done l h=>simp at hm
 | opn l q m' st h hq hb=>
   rw[List.getLast?_concat]at hm;refine⟨l,q,m',rfl,(Option.some.inj hm).symm,hq,hb,?_⟩;rw[List.dropLast_concat];exact h
theorem WfO.pop{l:List Pt}{st:List Nat}(h:WfO l st)(m:Nat)(hm:st.getLast?=some m)(q:Pt)(hq:q.kind=5)(hc:q.mate=m):WfO (qbc l m l.length++[q]) st.dropLast:=by
 obtain⟨a,p,b,rfl,rfl,hp,hb,ha⟩:=h.last m hm;have W:∀(p':Pt),(p'.kind=3∨p'.kind=4)→p'.mate=(a++p::b).length→∀o,o=a.length→Wf o (p'::b++[q]):=by
  rintro p' hk Hc o rfl;refine .sec _ p' q b [] hk hq ?_ hc hb (.nil _);rw[Hc];simp;omega
 rw[qwf];generalize hP:({ p with mate:=(a++p::b).length }:Pt)=p';have Ha:p'.kind=3∨p'.kind=4:=by subst hP;exact hp
 have Hb:p'.mate=(a++p::b).length:=by subst hP;rfl
 have e:a++p'::b++[q]=a++(p'::b++[q]):=by simp
 rw[e];generalize he:st.dropLast=st' at ha;clear hP he hm h;cases ha with
 | done a ha=>exact .done _ (ha.append (W p' Ha Hb _ (Nat.zero_add _)))
 | opn l' q' m' st' ha hq' hb'=>
   have e2:l'++q'::m'++(p'::b++[q])=l'++q'::(m'++(p'::b++[q])):=by simp
   rw[e2];exact .opn l' q' _ st' ha hq' (hb'.append (W p' Ha Hb _ (by simp;omega)))
theorem WfO.lt{l:List Pt}{st:List Nat}(h:WfO l st):∀m∈st,m<l.length:=by
 induction h with
 | done l _=>intro m hm;cases hm
 | opn l p b st _ _ _ ih=>
   intro m hm;rcases List.mem_append.1 hm with h | h
   ·have:=ih m h;simp;omega
   ·simp at h;subst h;simp
theorem q4j{b:Bool}(h:¬b=false):b=true:=by cases b<;>simp_all
theorem qjd(s x:List UInt8)(h:(Go.Lib.cut s x).2.2=true):∃i:Nat,Go.Lib.index s x=i∧i+x.length≤s.length∧(Go.Lib.cut s x).1=s.take i∧(Go.Lib.cut s x).2.1=s.drop (i+x.length)∧(Go.Lib.cut s x).1.length=i:=by
 unfold Go.Lib.cut at h ⊢;by_cases h0:0≤Go.Lib.index s x
 ·have hr:=Go.Lib.index_room s x h0
  rw[if_pos h0];refine⟨(Go.Lib.index s x).toNat,by omega,by omega,rfl,rfl,?_⟩;simp only[List.length_take];omega
 ·rw[if_neg h0]at h;cases h
theorem qj4{α:Type}(f:α→Bool)(l:List α):(l.dropWhile f).length≤l.length:=(List.dropWhile_sublist f).length_le
theorem qk4(l cs:List UInt8):(Go.Lib.trimRightS l cs).length≤l.length:=by
 unfold Go.Lib.trimRightS;have:=qj4 (cs.contains ·) l.reverse;simpa using this
theorem qh9(l cs:List UInt8):(Go.Lib.trimLeftS l cs).length≤l.length:=qj4 _ _
theorem qye(l p:List UInt8):(Go.Lib.trimPrefix l p).length≤l.length:=by
 unfold Go.Lib.trimPrefix;split<;>simp
theorem qoz(t:List UInt8)(a z:Nat)(h:a≤t.length)(hz:z≤t.length):(qed t a z).1≤a∧z≤(qed t a z).2∧(qed t a z).2≤t.length:=by
 unfold qed;split
 ·exact⟨Nat.le_refl _,Nat.le_refl _,hz⟩
 ·have h1:=qk4 (t.take a) qdm
  have h2:=qye (Go.Lib.trimLeftS (t.drop z) qdm) [10];have h3:=qh9 (t.drop z) qdm;rw[List.length_take]at h1;rw[List.length_drop]at h3;refine⟨?_,?_,?_⟩<;>simp only<;>omega
theorem qp3(l:List UInt8):∀cur,∀x∈qbn cur l,x≠[]:=by
 induction l with
 | nil=>intro cur x hx;unfold qbn at hx;split at hx<;>simp_all
 | cons b l ih=>
   intro cur x hx;unfold qbn at hx;split at hx
   ·split at hx
    ·exact ih _ x hx
    ·rcases List.mem_cons.1 hx with rfl | hx
     ·assumption
     ·exact ih _ x hx
   ·exact ih _ x hx
structure TgOk(one:Tg):Prop where
 kind:2≤one.kind∧one.kind≤8
 op:one.kind=8→one.slip=0→(1≤one.op.length∧one.op.length≤3)∧1≤one.cl.length∧one.cl.length≤3
theorem qug(c:List UInt8):2≤qa0 c∧qa0 c≤8:=by
 unfold qa0;split
 ·omega
 ·repeat' split
  all_goals omega
theorem qu6{l:List UInt8}(h:l≠[]):1≤l.length:=by
 cases l with
 | nil=>exact absurd rfl h
 | cons b l=>simp
theorem q22(c:List UInt8):TgOk (qc9 c):=by
 unfold qc9;split
 ·exact⟨by simp,fun _ h=>by cases h⟩
 ·split
  ·rename_i a b hw
   have h1:=qp3 _ _ a (by show a∈qfo _;rw[hw];simp);have h2:=qp3 _ _ b (by show b∈qfo _;rw[hw];simp);split
   ·rename_i hd
    obtain⟨d1,d2⟩:=hd;unfold qd5 at d1 d2;simp only[Bool.and_eq_true,decide_eq_true_eq]at d1 d2;exact⟨by simp,fun _ _=>⟨⟨qu6 h1,d1.1⟩,qu6 h2,d2.1⟩⟩
   ·exact⟨by simp,fun _ h=>by cases h⟩
  ·exact⟨by simp,fun _ h=>by cases h⟩
theorem qqq(k:Nat)(n:List UInt8)(h:2≤k∧k<8):TgOk (qb9 k n):=by
 unfold qb9;split<;>split<;>exact⟨by simp;omega,fun e=>by simp at e;omega⟩
theorem qol(c:List UInt8):TgOk (qa9 c):=by
 have hk:=qug c;unfold qa9;split
 ·exact⟨by simp,fun h=>by cases h⟩
 ·split
  ·exact q22 c
  ·split
   ·exact qqq _ _ (by omega)
   ·exact qqq _ _ (by omega)
structure CtOk(t:List UInt8)(c:Ct)(a:Nat):Prop where
 op:1≤c.op.length∧c.op.length≤3
 cl:1≤c.cl.length∧c.cl.length≤3
 le:a≤t.length
 few:c.parts.length≤a
 six:c.opened.length≤6
 wf:WfO c.parts c.opened
theorem qh2(t:List UInt8):CtOk t Ct.start 0:=⟨by decide,by decide,Nat.zero_le _,by decide,by decide,.done _ (.nil _)⟩
theorem qh4{t:List UInt8}{c:Ct}{a:Nat}(h:CtOk t c a)(z n:Nat)(hn:a≤n)(hz:z≤n)(ht:n≤t.length):CtOk t (c.addText t a z) n:=by
 unfold Ct.addText;split
 ·rename_i q
  have:=h.few;exact⟨h.op,h.cl,ht,by simp;omega,h.six,h.wf.snoc _ (.inl rfl)⟩
 ·exact⟨h.op,h.cl,ht,Nat.le_trans h.few hn,h.six,h.wf⟩
theorem qib(l:List Pt)(m n:Nat):(qbc l m n).length=l.length:=by simp[qbc]
theorem q4k{t:List UInt8}{c:Ct}{a:Nat}(h:CtOk t c a)(one:Tg)(ho:TgOk one)(p n:Nat)(hn:a+1≤n)(ht:n≤t.length)(hs:(c.take one p).1=0):CtOk t (c.take one p).2 n:=by
 unfold Ct.take at hs ⊢;have hf:=h.few;by_cases h1:one.slip≠0
 ·rw[if_pos h1]at hs;exact absurd hs h1
 rw[if_neg h1]at hs ⊢;have h1:one.slip=0:=by omega
 by_cases h2:one.kind=7
 ·rw[if_pos h2];exact⟨h.op,h.cl,ht,by show c.parts.length≤_;omega,h.six,h.wf⟩
 rw[if_neg h2]at hs ⊢;by_cases h3:one.kind=8
 ·rw[if_pos h3];exact⟨(ho.op h3 h1).1,(ho.op h3 h1).2,ht,by show c.parts.length≤_;omega,h.six,h.wf⟩
 rw[if_neg h3]at hs ⊢;by_cases h4:one.kind=3∨one.kind=4
 ·rw[if_pos h4]at hs ⊢
  by_cases h5:c.opened.length=6
  ·rw[if_pos h5]at hs;cases hs
  ·rw[if_neg h5]
   have:=h.six;exact⟨h.op,h.cl,ht,by simp;omega,by simp;omega,h.wf.push _ h4⟩
 rw[if_neg h4]at hs ⊢;by_cases h5:one.kind=5
 ·rw[if_pos h5]at hs ⊢
  cases hl:c.opened.getLast? with
  | none=>rw[hl]at hs;cases hs
  | some m=>
    rw[hl]at hs;by_cases h6:qk7 c.parts m≠one.name
    ·simp only[if_pos h6]at hs;cases hs
    ·simp only[if_neg h6]
     have:=h.six;refine⟨h.op,h.cl,ht,by simp[qib];omega,by simp;omega,?_⟩;exact h.wf.pop m hl ⟨5,p,one.name,m⟩ rfl rfl
 ·rw[if_neg h5]
  have:=ho.kind;exact⟨h.op,h.cl,ht,by simp;omega,h.six,h.wf.snoc _ (by simp only;omega)⟩
theorem qf8{t:List UInt8}{c:Ct}{a:Nat}(h:CtOk t c a){d:Ct}{b:Nat}(hs:c.step t a=.next d b):CtOk t d b∧a<b:=by
 unfold Ct.step at hs;have Hb:=h.le;by_cases h1:(Go.Lib.cut (t.drop a) c.op).2.2=false
 ·rw[if_pos h1]at hs;cases hs
 rw[if_neg h1]at hs;obtain⟨i,_,hi,_,hr,Ha⟩:=qjd _ _ (q4j h1);simp only[Ha,hr]at hs;rw[List.length_drop]at hi;by_cases h2:(Go.Lib.cut ((t.drop a).drop (i+c.op.length)) c.cl).2.2=false
 ·rw[if_pos h2]at hs;cases hs
 rw[if_neg h2]at hs;obtain⟨j,_,hj,_,_,hb⟩:=qjd _ _ (q4j h2);rw[hb]at hs;rw[List.length_drop,List.length_drop]at hj;have ha:=qol (Go.Lib.trimS (Go.Lib.cut ((t.drop a).drop (i+c.op.length)) c.cl).1 qah);generalize qa9 _=one at hs ha;have ho:=h.op;have hc:=h.cl;have hO:(if one.kind≠2 then qed t (a+i) (a+i+c.op.length+j+c.cl.length) else(a+i,a+i+c.op.length+j+c.cl.length)).1≤a+i∧a+i+c.op.length+j+c.cl.length≤(if one.kind≠2 then qed t (a+i) (a+i+c.op.length+j+c.cl.length) else(a+i,a+i+c.op.length+j+c.cl.length)).2∧(if one.kind≠2 then qed t (a+i) (a+i+c.op.length+j+c.cl.length) else(a+i,a+i+c.op.length+j+c.cl.length)).2≤t.length:=by
  split
  ·exact qoz _ _ _ (by omega) (by omega)
  ·refine⟨Nat.le_refl _,Nat.le_refl _,?_⟩;show a+i+c.op.length+j+c.cl.length≤t.length;omega
 generalize (if one.kind≠2 then qed t (a+i) (a+i+c.op.length+j+c.cl.length) else(a+i,a+i+c.op.length+j+c.cl.length))=o at hs hO;obtain⟨o1,o2⟩:=o;simp only at hs hO;by_cases h3:((c.addText t a o1).take one (a+i)).1≠0
 ·rw[if_pos h3]at hs;cases hs
 rw[if_neg h3]at hs;injection hs with e1 e2;subst e1 e2;refine⟨q4k (a:=a+i) (qh4 h o1 _ (by omega) (by omega) (by omega)) one ha _ _ (by omega) (by omega) (by omega),by omega⟩
theorem q4l{l:List Pt}{st:List Nat}(h:WfO l st)(hs:st.getLast?=none):Wf 0 l:=by
 cases h with
 | done l h=>exact h
 | opn=>simp at hs
theorem qxu{t:List UInt8}{c:Ct}{a k p:Nat}(hs:c.step t a=.slip k p):k≠0:=by
 unfold Ct.step at hs;by_cases h1:(Go.Lib.cut (t.drop a) c.op).2.2=false
 ·rw[if_pos h1]at hs;cases hs
 rw[if_neg h1]at hs;simp only at hs;by_cases h2:(Go.Lib.cut (Go.Lib.cut (t.drop a) c.op).2.1 c.cl).2.2=false
 ·rw[if_pos h2]at hs;injection hs with e _;omega
 rw[if_neg h2]at hs;generalize hO:(if(qa9 _).kind≠2 then _ else _:Nat×Nat)=o at hs;by_cases h3:((c.addText t a o.1).take (qa9 (Go.Lib.trimS (Go.Lib.cut (Go.Lib.cut (t.drop a) c.op).2.1 c.cl).1 qah)) (a+(Go.Lib.cut (t.drop a) c.op).1.length)).1≠0
 ·rw[if_pos h3]at hs;injection hs with e _;rw[←e];exact h3
 ·rw[if_neg h3]at hs;cases hs
theorem qxv{t:List UInt8}{c d:Ct}{a:Nat}(hs:c.step t a=.over d):d=c.addText t a t.length:=by
 unfold Ct.step at hs;by_cases h1:(Go.Lib.cut (t.drop a) c.op).2.2=false
 ·rw[if_pos h1]at hs;injection hs with e;exact e.symm
 rw[if_neg h1]at hs;simp only at hs;by_cases h2:(Go.Lib.cut (Go.Lib.cut (t.drop a) c.op).2.1 c.cl).2.2=false
 ·rw[if_pos h2]at hs;cases hs
 rw[if_neg h2]at hs;generalize hO:(if(qa9 _).kind≠2 then _ else _:Nat×Nat)=o at hs;by_cases h3:((c.addText t a o.1).take (qa9 (Go.Lib.trimS (Go.Lib.cut (Go.Lib.cut (t.drop a) c.op).2.1 c.cl).1 qah)) (a+(Go.Lib.cut (t.drop a) c.op).1.length)).1≠0
 ·rw[if_pos h3]at hs;cases hs
 ·rw[if_neg h3]at hs;cases hs
theorem q9i(t:List UInt8):∀(n:Nat) (c:Ct) (a:Nat),CtOk t c a→t.length - a<n→(Ct.go t n c a).1.1=0→Wf 0 (Ct.go t n c a).2∧(Ct.go t n c a).2.length≤t.length:=by
 intro n
 induction n with
 | zero=>intro c a _ h;omega
 | succ n ih=>
   intro c a hc hn hs;unfold Ct.go at hs ⊢;cases ha:c.step t a with
   | slip k p=>
     rw[ha]at hs;exact absurd hs (qxu ha)
   | over d=>
     rw[ha]at hs;simp only at hs ⊢;have hd:CtOk t d t.length:=by rw[qxv ha];exact qh4 hc _ _ hc.le (Nat.le_refl _) (Nat.le_refl _)
     refine⟨q4l hd.wf ?_,hd.few⟩;unfold Ct.left at hs;cases hl:d.opened.getLast? with
     | none=>rfl
     | some m=>rw[hl]at hs;cases hs
   | next d b=>
     rw[ha]at hs;obtain⟨h1,h2⟩:=qf8 hc ha;have:=h1.le;exact ih d b h1 (by omega) hs
theorem qpc(t:List UInt8)(h:(qam t).1.1=0):Wf 0 (qam t).2∧(qam t).2.length≤t.length:=by
 unfold qam at h ⊢;split at h
 ·cases h
 ·split at h
  ·rename_i h1 h2
   rw[if_neg h1,if_pos h2];exact q9i t _ _ _ (qh2 t) (by omega) h2
  ·rename_i h1 h2;exact absurd h h2
end Go.Proofs.YtfkhljmiehdgmaaGreatDoor.Pl
