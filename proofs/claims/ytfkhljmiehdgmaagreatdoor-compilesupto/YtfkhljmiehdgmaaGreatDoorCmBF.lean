/-
  Steps of the proof.
-/
import Derived.Test.YtfkhljmiehdgmaaGreatDoorCmBE
set_option maxRecDepth 100000
set_option maxHeartbeats 40000000
namespace Go.Proofs.YtfkhljmiehdgmaaGreatDoor
open Go.RowKit
theorem qut(t:List UInt8)(a:Nat):((⟨t.toArray⟩:ByteArray).extract 0 a).data.toList=t.take a:=by
 rw[qgr];simp
theorem qm2(t:List UInt8)(z:Nat):((⟨t.toArray⟩:ByteArray).extract z t.length).data.toList=t.drop z:=by
 rw[qgr];show (t.drop z).take (t.length - z)=t.drop z;exact List.take_of_length_le (by simp)
theorem q8x(l:List UInt8):l=[]∨∃A b,l=A++[b]:=by
 rcases List.eq_nil_or_concat l with h | ⟨A,b,h⟩
 ·exact .inl h
 ·exact .inr ⟨A,b,by simpa using h⟩
theorem qf0(l:List UInt8):(⟨l.toArray⟩:ByteArray).toList.isEmpty=l.isEmpty:=by rw[Lib.toList_data]
theorem qnq(A:List UInt8)(b:UInt8)(hh:A.length<(⟨(A++[b]).toArray⟩:ByteArray).size):(⟨(A++[b]).toArray⟩:ByteArray)[A.length]'hh=b:=by
 show (A++[b]).toArray[A.length]'_=b;simp
theorem qlj(b:UInt8)(L:List UInt8)(hh:0<(⟨(b::L).toArray⟩:ByteArray).size):(⟨(b::L).toArray⟩:ByteArray)[0]'hh=b:=rfl
theorem qbz(l:List UInt8):(⟨l.toArray⟩:ByteArray).size=l.length:=by simp[ByteArray.size]
theorem q53(w:World)(B g:Nat)(t:List UInt8)(c:Pl.Ct)(vp vo:Value)(h:CtAt w B g t c vp vo)(a z:Nat)(ha:a≤t.length)(hz:z≤t.length)(ht:t.length≤2000) :
  Calls Tryz.prog 151 #[.pointer (some ⟨g,0,none⟩),.int .i64 a,.int .i64 z] w fun e w'=>e=.returned (.tuple #[.int .i64 (Pl.qed t a z).1,.int .i64 (Pl.qed t a z).2])∧Below w.heap.size w w':=by
 have hT:∀w,Calls Tryz.prog 204 #[.string ((⟨t.toArray⟩:ByteArray).extract 0 a),.string ⟨#[9,12,13,32]⟩] w fun e w'=>e=.returned (bs (Lib.trimRightS (t.take a) Pl.qdm))∧Below w.heap.size w w':=fun w=>by
  have:=qpt ((⟨t.toArray⟩:ByteArray).extract 0 a) w (by rw[qgr,qbz];simp;omega);rw[qut]at this;exact this
 have hL:∀w,Calls Tryz.prog 196 #[.string ((⟨t.toArray⟩:ByteArray).extract z t.length),.string ⟨#[9,12,13,32]⟩] w fun e w'=>e=.returned (bs (Lib.trimLeftS (t.drop z) Pl.qdm))∧Below w.heap.size w w':=fun w=>by
  have:=qru ((⟨t.toArray⟩:ByteArray).extract z t.length) w;rw[qm2]at this;exact this
 have Hc:=Pl.qk4 (t.take a) Pl.qdm;have he:=Pl.qh9 (t.drop z) Pl.qdm;unfold Pl.qed;rw[List.length_take]at Hc;rw[List.length_drop]at he;generalize Lib.trimRightS (t.take a) Pl.qdm=A at *;generalize Lib.trimLeftS (t.drop z) Pl.qdm=Y at *;have hP:∀w,Calls Tryz.prog 205 #[.string ⟨Y.toArray⟩,.string ⟨#[10]⟩] w fun e w'=>e=.returned (.string ⟨(Lib.trimPrefix Y [10]).toArray⟩)∧w=w':=fun w=>by
  refine(Tryz.strings_TrimPrefix ⟨Y.toArray⟩ ⟨#[10]⟩ w).mono ?_;rintro e w' ⟨rfl,rfl⟩;exact⟨rfl,rfl⟩
 have He:=Pl.qye Y [10];have Ha:(⟨(Lib.trimPrefix Y [10]).toArray⟩:ByteArray).size≤t.length:=by rw[qbz];omega
 have fin:(t.length:Int) - ((⟨(Lib.trimPrefix Y [10]).toArray⟩:ByteArray).size:Int)=((t.length - (Lib.trimPrefix Y [10]).length:Nat):Int):=by rw[qbz];omega
 unfold bs at hT hL;rcases q8x A with rfl | ⟨A,b,rfl⟩
 ·rcases Y with _ | ⟨y,Y⟩
  ·have:=q8p w B g t c vp vo h a z ha hz ht _ _ hT hL _ hP Ha (qf0 []) (qf0 [])
   rw[fin]at this;exact this
  ·by_cases hy:y=10
   ·have:=q8o w B g t c vp vo h a z ha hz ht _ _ hT hL _ hP Ha (qf0 []) (by rw[qf0];rfl) (by rw[qbz];simp) (by rw[qlj];exact hy)
    rw[fin]at this;simp only[List.getLast?_nil,Option.any_none,List.head?_cons,Option.any_some,hy,bne_self_eq_false,Bool.or_self,Bool.false_eq_true,if_false];rw[hy]at this;exact this
   ·have:=q8q w B g t c vp vo h a z ha hz ht _ _ hT hL (qf0 []) (by rw[qf0];rfl) (by rw[qbz];simp) (by rw[qlj];exact hy)
    have hb:(y != 10)=true:=by simpa using hy
    simp only[List.getLast?_nil,Option.any_none,List.head?_cons,Option.any_some,hb,Bool.or_true,if_true];exact this
 ·have hE:(⟨(A++[b]).toArray⟩:ByteArray).toList.isEmpty=false:=by rw[qf0];simp
  have hS:(⟨(A++[b]).toArray⟩:ByteArray).size=A.length+1:=by rw[qbz];simp
  have Hb:A.length≤100000:=by simp at Hc;omega
  by_cases hb:b=10
  ·rcases Y with _ | ⟨y,Y⟩
   ·have:=q8m w B g t c vp vo h a z ha hz ht _ _ hT hL _ hP Ha hE A.length hS Hb (fun hh=>by rw[qnq];exact hb) (qf0 [])
    rw[fin,qbz]at this;simp only[List.getLast?_concat,Option.any_some,hb,bne_self_eq_false,List.head?_nil,Option.any_none,Bool.or_self,Bool.false_eq_true,if_false];rw[hb]at this;exact this
   ·by_cases hy:y=10
    ·have:=q8l w B g t c vp vo h a z ha hz ht _ _ hT hL _ hP Ha hE A.length hS Hb (fun hh=>by rw[qnq];exact hb) (by rw[qf0];rfl) (by rw[qbz];simp) (by rw[qlj];exact hy)
     rw[fin,qbz]at this;simp only[List.getLast?_concat,Option.any_some,hb,hy,bne_self_eq_false,List.head?_cons,Bool.or_self,Bool.false_eq_true,if_false];rw[hb,hy]at this;exact this
    ·have:=q8n w B g t c vp vo h a z ha hz ht _ _ hT hL hE A.length hS Hb (fun hh=>by rw[qnq];exact hb) (by rw[qf0];rfl) (by rw[qbz];simp) (by rw[qlj];exact hy)
     have hc:(y != 10)=true:=by simpa using hy
     simp only[List.head?_cons,Option.any_some,hc,Bool.or_true,if_true];exact this
  ·have:=q8r w B g t c vp vo h a z ha hz ht _ _ hT hL hE A.length hS Hb (fun hh=>by rw[qnq];exact hb)
   have hc:(b != 10)=true:=by simpa using hb
   simp only[List.getLast?_concat,Option.any_some,hc,Bool.true_or,if_true];exact this
namespace Pl
def lnF(s:List UInt8):Nat→Nat
 | 0=>0
 | k+1=>if s[k]?=some 10 then k+1 else lnF s k
def lnT(s:List UInt8)(z:Nat):Nat:=z+((s.drop z).takeWhile (·!= 10)).length
def emp(s:List UInt8)(a b:Nat):Bool:=((s.drop a).take (b - a)).all (fun x=>among x qah)
theorem qyv(s:List UInt8):∀k,lnF s k≤k
 | 0=>Nat.le_refl _
 | k+1=>by
   unfold lnF;split
   ·exact Nat.le_refl _
   ·exact Nat.le_succ_of_le (qyv s k)
theorem q7h(s:List UInt8)(z:Nat)(h:z≤s.length):z≤lnT s z∧lnT s z≤s.length:=by
 unfold lnT;have:=(List.takeWhile_sublist (p:=fun x:UInt8=>x != 10) (l:=s.drop z)).length_le;rw[List.length_drop]at this;omega
theorem qyu(s:List UInt8)(z:Nat)(h:s[z]?=some 10∨s.length≤z):lnT s z=z:=by
 unfold lnT;rcases h with h | h
 ·obtain⟨h1,h2⟩:=List.getElem?_eq_some_iff.1 h
  rw[List.drop_eq_getElem_cons h1,h2];rfl
 ·rw[List.drop_of_length_le h];rfl
theorem q52(s:List UInt8)(z:Nat)(b:UInt8)(h:s[z]?=some b)(hb:b≠10):lnT s z=lnT s (z+1):=by
 obtain⟨h1,h2⟩:=List.getElem?_eq_some_iff.1 h;unfold lnT;rw[List.drop_eq_getElem_cons h1,h2,List.takeWhile_cons_of_pos (by simpa using hb),List.length_cons];omega
theorem q9e(s:List UInt8)(a b:Nat)(h:b≤a):emp s a b=true:=by
 unfold emp;rw[show b - a=0 by omega];rfl
theorem q6s(s:List UInt8)(a b:Nat)(x:UInt8)(h:a<b)(hx:s[a]?=some x):emp s a b=(among x qah && emp s (a+1) b):=by
 obtain⟨h1,h2⟩:=List.getElem?_eq_some_iff.1 hx;unfold emp;rw[List.drop_eq_getElem_cons h1,h2,show b - a=(b - (a+1))+1 by omega];rfl
theorem qjy(b:UInt8)(l:List UInt8):among b l=l.contains b:=by
 rw[Bool.eq_iff_iff,qg6,List.contains_iff_mem]
theorem q9w(X:ByteArray)(h:0<X.size)(hb:among X[0] qah=true):Go.Lib.trimLeftS X.data.toList qah=Go.Lib.trimLeftS (X.extract 1 X.size).data.toList qah:=by
 rw[extract_drop];have h0:0<X.data.toList.length:=h;have e:X.data.toList=X[0]::X.data.toList.drop 1:=by
  have:=List.drop_eq_getElem_cons h0
  rwa [List.drop_zero]at this
 show _=Go.Lib.trimLeftS (X.data.toList.drop 1) qah;unfold Go.Lib.trimLeftS;rw[congrArg (List.dropWhile _) e,List.dropWhile_cons_of_pos (by rw[←qjy];exact hb)]
theorem zak(X:ByteArray)(h:∀q:0<X.size,among X[0] qah=false):Go.Lib.trimLeftS X.data.toList qah=X.data.toList:=by
 unfold Go.Lib.trimLeftS;by_cases q:0<X.data.toList.length
 ·have e:X.data.toList=X[0]::X.data.toList.drop 1:=by
   have:=List.drop_eq_getElem_cons q
   rwa [List.drop_zero]at this
  rw[e,List.dropWhile_cons_of_neg (by rw[←qjy,h q];simp)]
 ·rw[List.eq_nil_of_length_eq_zero (by omega:X.data.toList.length=0)];rfl
theorem ql6(X:ByteArray)(h:0<X.size):X.data.toList=X.data.toList.take (X.size - 1)++[X[X.size - 1]]:=by
 have:=qd1 X (X.size - 1) (by omega);rw[Nat.sub_add_cancel h,qer X _ (Nat.le_refl _)]at this;exact this
theorem q9u(X:ByteArray)(h:0<X.size)(hb:among X[X.size - 1] qah=true):Go.Lib.trimRightS X.data.toList qah=Go.Lib.trimRightS (X.extract 0 (X.size - 1)).data.toList qah:=by
 rw[extract_take];show _=Go.Lib.trimRightS (X.data.toList.take (X.size - 1)) qah;unfold Go.Lib.trimRightS;rw[congrArg List.reverse (ql6 X h),List.reverse_append,List.reverse_cons,List.reverse_nil,List.nil_append,List.singleton_append,List.dropWhile_cons_of_pos (by rw[←qjy];exact hb)]
theorem q9v(X:ByteArray)(h:∀q:0<X.size,among X[X.size - 1] qah=false):Go.Lib.trimRightS X.data.toList qah=X.data.toList:=by
 unfold Go.Lib.trimRightS;by_cases q:0<X.size
 ·rw[congrArg List.reverse (ql6 X q),List.reverse_append,List.reverse_cons,List.reverse_nil,List.nil_append,List.singleton_append,List.dropWhile_cons_of_neg (by rw[←qjy,h q];simp),
   List.reverse_cons,List.reverse_reverse]
  exact(ql6 X q).symm
 ·rw[List.eq_nil_of_length_eq_zero (show X.data.toList.length=0 from by have:X.data.toList.length=X.size:=rfl;omega)];rfl
theorem qrv(x:UInt8)(t cs:List UInt8):Go.Lib.trimRightS (x::t) cs=if Go.Lib.trimRightS t cs=[] then(if cs.contains x=true then[] else[x]) else x::Go.Lib.trimRightS t cs:=by
 unfold Go.Lib.trimRightS;rw[List.reverse_cons,List.dropWhile_append];cases h:t.reverse.dropWhile (cs.contains ·) with
 | nil=>
   show (List.dropWhile (cs.contains ·) [x]).reverse=(if cs.contains x=true then[] else[x]);by_cases q:cs.contains x=true
   ·rw[if_pos q,List.dropWhile_cons_of_pos q];rfl
   ·rw[if_neg q,List.dropWhile_cons_of_neg q];rfl
 | cons a l=>simp
theorem qn5(cs:List UInt8):∀l:List UInt8,Go.Lib.trimRightS (Go.Lib.trimLeftS l cs) cs=Go.Lib.trimS l cs
 | []=>rfl
 | x::t=>by
   have ih:=qn5 cs t;unfold Go.Lib.trimS at ih ⊢;rw[qrv];by_cases q:cs.contains x=true
   ·have e:Go.Lib.trimLeftS (x::t) cs=Go.Lib.trimLeftS t cs:=List.dropWhile_cons_of_pos q
    rw[e,ih,if_pos q];by_cases z:Go.Lib.trimRightS t cs=[]
    ·rw[if_pos z,z]
    ·rw[if_neg z]
     exact(List.dropWhile_cons_of_pos q).symm
   ·have e:Go.Lib.trimLeftS (x::t) cs=x::t:=List.dropWhile_cons_of_neg q
    rw[e,qrv,if_neg q];split
    ·exact(List.dropWhile_cons_of_neg q).symm
    ·exact(List.dropWhile_cons_of_neg q).symm
end Pl
theorem qxr(s:ByteArray)(a b:Nat)(w:World)(hs:s.size≤1000000)(hb:b≤s.size)(Ha:a≤b) :
  Calls Tryz.prog 86 #[.string s,.int .i64 a,.int .i64 b] w fun e w'=>e=.returned (.bool (Pl.emp s.data.toList a b))∧w=w':=by
 go_enter Tryz.func86,Tryz.ntmps86
 go_wp2
 go_loop [7] (fun i=>∃k:Nat,k≤b∧i=.int .i64 k∧Hid (Pl.emp s.data.toList a b=Pl.emp s.data.toList k b)) (fun i=>b - (intOf i).toNat)
 case atStart=>exact⟨a,Ha,rfl,by show _=_;rfl⟩
 case round=>
  obtain⟨k,hk,rfl,HN⟩:=hrel;by_cases Hb:k<b
  ·have ha:(k:Int)<(b:Int):=by omega
   have Hc:k<s.size:=by omega
   have he:(k:Int)<(s.size:Int):=by omega
   have HE:=hd (Pl.q6s s.data.toList k b s[k] Hb (qes s k Hc));by_cases hc:Pl.among s[k] Pl.qah=true
   ·go_wp2_with (go_at_call 80;refine(qdu s[k] _ Pl.qah _ rfl (by decide)).mono ?_;rintro e w' ⟨rfl,rfl⟩;rw[hc])
    go_round
    case rel=>exact⟨k+1,by omega,by go_num,by show _=_;rw[HN.out,HE.out,hc];rfl⟩
    case measure=>simp[intOf];omega
   ·have hc:=Bool.eq_false_iff.2 hc
    go_wp2_with (go_at_call 80;refine(qdu s[k] _ Pl.qah _ rfl (by decide)).mono ?_;rintro e w' ⟨rfl,rfl⟩;rw[hc])
    go_ret
    exact⟨by rw[HN.out,HE.out,hc];rfl,rfl⟩
  ·have ha:decide ((k:Int)<(b:Int))=false:=by rw[decide_eq_false_iff_not];omega
   have HF:=hd (HN.out.trans (Pl.q9e _ _ _ (by omega)));go_wp2
   go_ret
   exact⟨by rw[HF.out];rfl,rfl⟩
theorem qub(s:ByteArray)(a:Nat)(w:World)(hs:s.size≤1000000)(ha:a≤s.size) :
  Calls Tryz.prog 84 #[.string s,.int .i64 a] w fun e w'=>e=.returned (.int .i64 (Pl.lnF s.data.toList a))∧w=w':=by
 go_enter Tryz.func84,Tryz.ntmps84
 go_wp2
 go_loop [1] (fun i=>∃k:Nat,k≤a∧i=.int .i64 k∧Hid (Pl.lnF s.data.toList a=Pl.lnF s.data.toList k)) (fun i=>(intOf i).toNat)
 case atStart=>exact⟨a,Nat.le_refl _,rfl,by show _=_;rfl⟩
 case round=>
  obtain⟨k,hk,rfl,HN⟩:=hrel
  match k,hk with
  | 0,_=>
    go_wp2
    go_ret
    exact⟨by rw[HN.out];rfl,rfl⟩
  | k+1,hk=>
    have Ha:k<s.size:=by omega
    have e1:(((k+1:Nat):Int) - 1)=(k:Int):=by omega
    have e0:(((k+1:Nat):Int) > 0):=by omega
    have hb:(k:Int)<(s.size:Int):=by omega
    have HE:Hid (Pl.lnF s.data.toList (k+1)=if s[k]=10 then k+1 else Pl.lnF s.data.toList k):=by
     show _=_
     conv=>lhs;unfold Pl.lnF
     rw[qes s k Ha];simp only[Option.some.injEq]
    by_cases hc:s[k]=10
    ·have hq:((s[k].toNat:Int)==10)=true:=by rw[hc];rfl
     go_wp2
     go_ret
     exact⟨by rw[HN.out,HE.out,if_pos hc];rfl,rfl⟩
    ·have hq:((s[k].toNat:Int)==10)=false:=by
      have:=Pl.qh3 s[k] 10 (by decide);rw[beq_eq_false_iff_ne.2 (show s[k]≠UInt8.ofNat 10 from hc)]at this;exact this
     go_wp2
     go_round
     case rel=>exact⟨k,by omega,by go_num,by show _=_;rw[HN.out,HE.out,if_neg hc]⟩
     case measure=>simp[intOf]
theorem q0x(s:ByteArray)(a:Nat)(w:World)(hs:s.size≤1000000)(ha:a≤s.size) :
  Calls Tryz.prog 85 #[.string s,.int .i64 a] w fun e w'=>e=.returned (.int .i64 (Pl.lnT s.data.toList a))∧w=w':=by
 go_enter Tryz.func85,Tryz.ntmps85
 go_wp2
 go_loop [1] (fun i=>∃k:Nat,k≤s.size∧i=.int .i64 k∧Hid (Pl.lnT s.data.toList a=Pl.lnT s.data.toList k)) (fun i=>s.size - (intOf i).toNat)
 case atStart=>exact⟨a,ha,rfl,by show _=_;rfl⟩
 case round=>
  obtain⟨k,hk,rfl,HN⟩:=hrel;by_cases hb:k<s.size
  ·have Ha:(k:Int)<(s.size:Int):=by omega
   by_cases hc:s[k]=10
   ·have HF:=hd (HN.out.trans (Pl.qyu _ k (.inl (by rw[qes s k hb,hc]))))
    have hq:((s[k].toNat:Int)==10)=true:=by rw[hc];rfl
    go_wp2
    go_ret
    exact⟨by rw[HF.out];rfl,rfl⟩
   ·have HF:=hd (HN.out.trans (Pl.q52 _ k _ (qes s k hb) hc))
    have hq:((s[k].toNat:Int)==10)=false:=by
     have:=Pl.qh3 s[k] 10 (by decide);rw[beq_eq_false_iff_ne.2 (show s[k]≠UInt8.ofNat 10 from hc)]at this;exact this
    go_wp2
    go_round
    case rel=>exact⟨k+1,by omega,by go_num,HF⟩
    case measure=>simp[intOf];omega
  ·have Ha:decide ((k:Int)<(s.size:Int))=false:=by rw[decide_eq_false_iff_not];omega
   have HF:=hd (HN.out.trans (Pl.qyu _ k (.inr (by show s.size≤k;omega))));go_wp2
   go_ret
   exact⟨by rw[HF.out];rfl,rfl⟩
theorem qn4(s:ByteArray)(w:World)(hs:s.size≤1000000) :
  Calls Tryz.prog 82 #[.string s] w fun e w'=>e=.returned (.string ⟨(Go.Lib.trimS s.data.toList Pl.qah).toArray⟩)∧w=w':=by
 go_enter Tryz.func82,Tryz.ntmps82
 go_wp2
 go_loop [0] (fun v=>∃X:ByteArray,X.size≤s.size∧v=.string X∧Hid (Go.Lib.trimLeftS s.data.toList Pl.qah=Go.Lib.trimLeftS X.data.toList Pl.qah)) (fun v=>match v with | .string X=>X.size | _=>0)
 case atStart=>exact⟨s,Nat.le_refl _,rfl,by show _=_;rfl⟩
 case round=>
  obtain⟨X,hX,rfl,HN⟩:=hrel;by_cases hp:0<X.size∧∃q:0<X.size,Pl.among X[0] Pl.qah=true
  ·obtain⟨Ha,_,hc⟩:=hp
   have ha:(X.size:Int) > 0:=by omega
   have HF:=hd (HN.out.trans (Pl.q9w X Ha hc));have hz:(X.extract 1 X.size).size<X.size:=by rw[Pl.extract_drop,qbz,List.length_drop];show X.size - 1<X.size;omega
   clear HN;go_wp2_with (go_at_call 80;refine(qdu X[0] _ Pl.qah _ rfl (by decide)).mono ?_;rintro e w' ⟨rfl,rfl⟩;rw[hc])
   go_round
   case rel=>exact⟨_,by omega,rfl,HF⟩
   case measure=>exact hz
  ·have hF:Go.Lib.trimLeftS X.data.toList Pl.qah=X.data.toList:=Pl.zak X (fun q=>by
    rw[Bool.eq_false_iff];exact fun z=>hp ⟨q,q,z⟩)
   have HF:=hd (HN.out.trans hF);clear HN hF;have HK:Hid (∀Y:ByteArray,Y.size≤X.size→Go.Lib.trimRightS Y.data.toList Pl.qah=Y.data.toList→Go.Lib.trimRightS X.data.toList Pl.qah=Go.Lib.trimRightS Y.data.toList Pl.qah→Y=⟨(Go.Lib.trimS s.data.toList Pl.qah).toArray⟩):=by
    intro Y _ h1 h2;rw[←Pl.qn5,HF.out,h2,h1]
   clear HF;by_cases Ha:0<X.size
   ·have ha:(X.size:Int) > 0:=by omega
    have hc:Pl.among X[0] Pl.qah=false:=Bool.eq_false_iff.2 (fun z=>hp ⟨Ha,Ha,z⟩);clear hp;go_wp2_with (go_at_call 80;refine(qdu X[0] _ Pl.qah _ rfl (by decide)).mono ?_;rintro e w' ⟨rfl,rfl⟩;rw[hc])
    clear hc;go_loop [0] (fun v=>∃Y:ByteArray,Y.size≤X.size∧v=.string Y∧Hid (Go.Lib.trimRightS X.data.toList Pl.qah=Go.Lib.trimRightS Y.data.toList Pl.qah)) (fun v=>match v with | .string X=>X.size | _=>0)
    case atStart=>exact⟨X,Nat.le_refl _,rfl,by show _=_;rfl⟩
    case round=>
     obtain⟨Y,hY,rfl,HN⟩:=hrel;by_cases hp:0<Y.size∧∃q:0<Y.size,Pl.among Y[Y.size - 1] Pl.qah=true
     ·obtain⟨Ha,_,hc⟩:=hp
      have ha:(Y.size:Int) > 0:=by omega
      have hb:(0:Int)≤(Y.size:Int) - 1:=by omega
      have HF:=hd (HN.out.trans (Pl.q9u Y Ha hc));have hz:(Y.extract 0 (Y.size - 1)).size<Y.size:=by rw[Pl.extract_take,qbz,List.length_take];omega
      clear HN;go_wp2_with (go_at_call 80;refine(qdu Y[Y.size - 1] _ Pl.qah _ rfl (by decide)).mono ?_;rintro e w' ⟨rfl,rfl⟩;rw[hc])
      go_round
      case rel=>exact⟨_,by omega,rfl,HF⟩
      case measure=>exact hz
     ·have HF:=(show Hid _ from HK.out Y hY (Pl.q9v Y (fun q=>by
       rw[Bool.eq_false_iff];exact fun z=>hp ⟨q,q,z⟩)) HN.out)
      clear HN HK;by_cases Ha:0<Y.size
      ·have ha:(Y.size:Int) > 0:=by omega
       have hb:(0:Int)≤(Y.size:Int) - 1:=by omega
       have hc:Pl.among Y[Y.size - 1] Pl.qah=false:=Bool.eq_false_iff.2 (fun z=>hp ⟨Ha,Ha,z⟩);clear hp;go_wp2_with (go_at_call 80;refine(qdu Y[Y.size - 1] _ Pl.qah _ rfl (by decide)).mono ?_;rintro e w' ⟨rfl,rfl⟩;rw[hc])
       go_ret
       exact⟨qdb HF.out,rfl⟩
      ·have ha:decide ((Y.size:Int) > 0)=false:=by rw[decide_eq_false_iff_not];omega
       clear hp;go_wp2
       go_ret
       exact⟨qdb HF.out,rfl⟩
   ·have ha:decide ((X.size:Int) > 0)=false:=by rw[decide_eq_false_iff_not];omega
    clear hp;go_wp2
    go_loop [0] (fun v=>∃Y:ByteArray,Y.size≤X.size∧v=.string Y∧Hid (Go.Lib.trimRightS X.data.toList Pl.qah=Go.Lib.trimRightS Y.data.toList Pl.qah)) (fun v=>match v with | .string X=>X.size | _=>0)
    case atStart=>exact⟨X,Nat.le_refl _,rfl,by show _=_;rfl⟩
    case round=>
     obtain⟨Y,hY,rfl,HN⟩:=hrel;have HF:=hd (HK.out Y hY (Pl.q9v Y (fun q=>by omega)) HN.out);clear HN HK;have ha:decide ((Y.size:Int) > 0)=false:=by rw[decide_eq_false_iff_not];omega
     go_wp2
     go_ret
     exact⟨qdb HF.out,rfl⟩
theorem quj:(Tryz.prog.info? 9).map (fun i=>(i.zero,i.size,i.bytes))=some (some (.string ⟨#[]⟩),1,16):=by kernel_rfl
def qke(L:List (List UInt8)):List Value:=L.map fun l=>.string ⟨l.toArray⟩
theorem qmr(L:List (List UInt8))(l:List UInt8):qke (L++[l])=qke L++[.string ⟨l.toArray⟩]:=by unfold qke;simp
def qgc(B:Nat)(w:World)(v:Value)(L:List (List UInt8)):Prop:=w.ownsRow B 9 1 v L.length (qke L)
theorem qgc.slice{B:Nat}{w:World}{v:Value}{L:List (List UInt8)}(h:qgc B w v L):∃ao cap,v=.slice ao L.length cap:=qar h
theorem qck(s:ByteArray)(a z:Nat):s.extract a z=⟨((s.data.toList.drop a).take (z - a)).toArray⟩:=qgr s.data.toList a z
namespace Pl
def cur(l:List UInt8)(f k:Nat):List UInt8:=(l.drop f).take (k - f)
theorem qpd(l:List UInt8)(k:Nat):cur l k k=[]:=by unfold cur;rw[Nat.sub_self];rfl
theorem qzj(l:List UInt8)(f k:Nat)(b:UInt8)(hf:f≤k)(h:l[k]?=some b):cur l f (k+1)=cur l f k++[b]:=by
 obtain⟨h1,h2⟩:=List.getElem?_eq_some_iff.1 h;unfold cur;rw[show k+1 - f=(k - f)+1 by omega,List.take_succ_eq_append_getElem (by rw[List.length_drop];omega),List.getElem_drop]
 congr 2
 rw[←h2];congr 1;omega
theorem q7m(l:List UInt8)(f k:Nat)(hf:f<k)(hk:k≤l.length):cur l f k≠[]:=by
 intro e;have:=congrArg List.length e;unfold cur at this;rw[List.length_take,List.length_drop]at this;simp at this;omega
theorem qnw(l:List UInt8)(f k:Nat)(b:UInt8)(h:l[k]?=some b)(hb:among b qah=true)(hf:f≤k):qbn (cur l f k) (l.drop k)=if f<k then cur l f k::qbn (cur l (k+1) (k+1)) (l.drop (k+1)) else qbn (cur l (k+1) (k+1)) (l.drop (k+1)):=by
 obtain⟨h1,h2⟩:=List.getElem?_eq_some_iff.1 h;rw[List.drop_eq_getElem_cons h1,h2,qpd]
 conv=>lhs;unfold qbn
 rw[if_pos hb];by_cases q:f<k
 ·rw[if_pos q,if_neg (q7m l f k q (by omega))]
 ·rw[if_neg q,show f=k by omega,qpd,if_pos rfl]
theorem qzp(l:List UInt8)(f k:Nat)(b:UInt8)(h:l[k]?=some b)(hb:among b qah=false)(hf:f≤k):qbn (cur l f k) (l.drop k)=qbn (cur l f (k+1)) (l.drop (k+1)):=by
 obtain⟨h1,h2⟩:=List.getElem?_eq_some_iff.1 h;rw[List.drop_eq_getElem_cons h1,h2,qzj l f k b hf h]
 conv=>lhs;unfold qbn
 rw[if_neg (by rw[hb];simp)]
theorem qtd(l:List UInt8)(f k:Nat)(hk:k=l.length)(hf:f≤k):qbn (cur l f k) (l.drop k)=if f<k then[cur l f k] else[]:=by
 rw[hk,List.drop_length];unfold qbn;by_cases q:f<k
 ·rw[←hk,if_pos q,if_neg (q7m l f k q (by omega))]
 ·rw[←hk,if_neg q,show f=k by omega,qpd,if_pos rfl]
end Pl
structure WdAt(B:Nat)(w wr:World)(s:ByteArray)(v:Value)(acc:List (List UInt8))(f k:Nat):Prop where
 own:qgc B wr v acc
 below:Below B w wr
 fk:f≤k
 len:acc.length≤k
 eq:k≤s.size→Pl.qfo s.data.toList=acc++Pl.qbn (Pl.cur s.data.toList f k) (s.data.toList.drop k)
 fin:s.size<k→Pl.qfo s.data.toList=acc
theorem q1s(s:ByteArray)(w:World)(hs:s.size≤1000000) :
  Calls Tryz.prog 121 #[.string s] w fun e w'=>(∃v,e=.returned v∧qgc w.heap.size w' v (Pl.qfo s.data.toList))∧Below w.heap.size w w':=by
 obtain⟨i0,hi,Hk,hl,Hl⟩:=info_parts quj;go_enter Tryz.func121,Tryz.ntmps121
 go_wp2
 go_loopw [3,4,5] (fun v f i wr=>∃(k fn:Nat) (acc:List (List UInt8)),k≤s.size+1∧i=.int .i64 k∧f=.int .i64 fn∧Hid (WdAt w.heap.size w wr s v acc fn k)) (fun _ _ i _=>s.size+1 - (intOf i).toNat)
 case atStart=>exact⟨0,0,[],Nat.zero_le _,rfl,rfl,⟨World.ownsRow_nil _ _ _ _,Below.refl _ _,Nat.le_refl _,Nat.le_refl _,fun _=>rfl,fun h=>absurd h (Nat.not_lt_zero _)⟩⟩
 case round=>
  obtain⟨k,fn,acc,hk,rfl,rfl,H⟩:=hrel;have hz:=H.out.below.size;have Hf:=H.out.fk;have hn:=H.out.len;obtain⟨ao,cap,rfl⟩:=H.out.own.slice;by_cases Hi:k≤s.size
  rotate_left
  ·have hj:¬(k:Int)≤(s.size:Int):=by omega
   go_wp2_with fail
   go_ret
   exact⟨⟨_,rfl,by rw[H.out.fin (by omega)];exact H.out.own⟩,H.out.below⟩
  have hj:(k:Int)≤(s.size:Int):=by omega
  have HP:Hid (∀(v':Value) (w1:World),fn<k→(k=s.size∨∃q:k<s.size,Pl.among s[k] Pl.qah=true)→w1.ownsRow w.heap.size 9 1 v' (acc.length+1) (qke acc++[.string (s.extract fn k)])→Below w.heap.size w w1→WdAt w.heap.size w w1 s v' (acc++[Pl.cur s.data.toList fn k]) (k+1) (k+1)):=by
   intro v' w1 Hc hc Hj hb;have e:=H.out.eq Hi;refine⟨?_,hb,Nat.le_refl _,by rw[List.length_append];simp only[List.length_cons,List.length_nil];omega,fun h2=>?_,fun h2=>?_⟩
   ·show w1.ownsRow _ _ _ _ _ _
    rw[qmr,List.length_append];unfold Pl.cur;rw[←qck];exact Hj
   ·rcases hc with hc | ⟨q,hc⟩
    ·omega
    ·rw[e,Pl.qnw _ fn k _ (qes s k q) hc Hf,if_pos Hc,List.append_assoc];rfl
   ·have hk:k=s.size:=by omega
    rw[e,Pl.qtd _ fn k hk Hf,if_pos Hc]
  have hf:Hid (∀w1,¬fn<k→(k=s.size∨∃q:k<s.size,Pl.among s[k] Pl.qah=true)→w1=wr→WdAt w.heap.size w w1 s (.slice ao acc.length cap) acc (k+1) (k+1)):=by
   rintro w1 Hc hc rfl;have e:=H.out.eq Hi;refine⟨H.out.own,H.out.below,Nat.le_refl _,by omega,fun h2=>?_,fun h2=>?_⟩
   ·rcases hc with hc | ⟨q,hc⟩
    ·omega
    ·rw[e,Pl.qnw _ fn k _ (qes s k q) hc Hf,if_neg Hc]
   ·have hk:k=s.size:=by omega
    rw[e,Pl.qtd _ fn k hk Hf,if_neg Hc,List.append_nil]
  by_cases ha:k=s.size∨∃q:k<s.size,Pl.among s[k] Pl.qah=true
  rotate_left
  ·have Hc:k<s.size:=by
    rcases Nat.lt_or_ge k s.size with q | q
    ·exact q
    ·exact absurd (.inl (by omega)) ha
   have hc:Pl.among s[k] Pl.qah=false:=Bool.eq_false_iff.2 (fun z=>ha (.inr ⟨Hc,z⟩));have he:(k:Int)<(s.size:Int):=by omega
   have hm:((k:Int)==(s.size:Int))=false:=by rw[beq_eq_false_iff_ne];omega
   have HN:Hid (WdAt w.heap.size w wr s (.slice ao acc.length cap) acc fn (k+1)):=
    ⟨H.out.own,H.out.below,by omega,by omega,fun h2=>(H.out.eq Hi).trans (by rw[Pl.qzp _ fn k _ (qes s k Hc) hc Hf]),fun h2=>by omega⟩
   clear H HP hf ha;go_wp2_with (go_at_call 80;refine(qdu s[k] _ Pl.qah _ rfl (by decide)).mono ?_;rintro e w' ⟨rfl,rfl⟩;rw[hc])
   go_roundw
   case rel=>exact⟨k+1,fn,acc,by omega,by go_num,rfl,HN⟩
   case measure=>simp[intOf];omega
  have He:=(show Hid (qgc w.heap.size wr (.slice ao acc.length cap) acc) from H.out.own);have hg:=(show Hid (Below w.heap.size w wr) from H.out.below);clear H;by_cases hq:k=s.size
  ·subst hq
   have hm:((s.size:Int)==(s.size:Int))=true:=by rw[beq_iff_eq]
   by_cases Hc:fn<s.size
   ·have he:(s.size:Int) > (fn:Int):=by omega
    go_wp2_with (first | (at_builtin;refine wpList_append_own _ rfl _ _ 35 rfl w.heap.size 9 i0 (.string ⟨#[]⟩) 1 16 Tryz.underlying35 hi Hk hl Hl rfl (by decide) _ _ _ rfl (World.ownsRow.alloc He.out _) ⟨wr.heap.size,0,none⟩ 1 1 [.string (s.extract fn s.size)] rfl rfl (qc3 _ _ _) (by intro u hu;simp at hu;subst hu;rfl) (by unfold maxLen;omega) (by omega) (by simp;omega) ?_))
    ·intro v' w1 Ha Hb _
     have Hg:Below w.heap.size w w1:=qio (Below.alloc hg.out hz _) (World.ownsRow.alloc He.out _) Hb (by simp;omega);have HW:=hd (HP.out v' w1 Hc ha Ha Hg);clear HP hf ha Ha Hg Hb;go_wp2
     go_roundw
     case rel=>exact⟨s.size+1,s.size+1,_,by omega,by go_num,by go_num,HW⟩
     case measure=>simp[intOf]
   ·have he:¬(s.size:Int) > (fn:Int):=by omega
    have HW:=hd (hf.out wr Hc ha rfl);clear HP hf ha;go_wp2_with fail
    go_roundw
    case rel=>exact⟨s.size+1,s.size+1,_,by omega,by go_num,by go_num,HW⟩
    case measure=>simp[intOf]
  ·obtain⟨Hn,hc⟩:=ha.resolve_left hq
   have Hm:(k:Int)<(s.size:Int):=by omega
   have hm:((k:Int)==(s.size:Int))=false:=by rw[beq_eq_false_iff_ne];omega
   by_cases Hc:fn<k
   ·have he:(k:Int) > (fn:Int):=by omega
    go_wp2_with (first | (go_at_call 80;refine(qdu s[k] _ Pl.qah _ rfl (by decide)).mono ?_;rintro e w' ⟨rfl,rfl⟩;rw[hc]) | (at_builtin;refine wpList_append_own _ rfl _ _ 35 rfl w.heap.size 9 i0 (.string ⟨#[]⟩) 1 16 Tryz.underlying35 hi Hk hl Hl rfl (by decide) _ _ _ rfl (World.ownsRow.alloc He.out _) ⟨wr.heap.size,0,none⟩ 1 1 [.string (s.extract fn k)] rfl rfl (qc3 _ _ _) (by intro u hu;simp at hu;subst hu;rfl) (by unfold maxLen;omega) (by omega) (by simp;omega) ?_))
    ·intro v' w1 Ha Hb _
     have Hg:Below w.heap.size w w1:=qio (Below.alloc hg.out hz _) (World.ownsRow.alloc He.out _) Hb (by simp;omega);have HW:=hd (HP.out v' w1 Hc ha Ha Hg);clear HP hf ha Ha Hg Hb;go_wp2
     go_roundw
     case rel=>exact⟨k+1,k+1,_,by omega,by go_num,by go_num,HW⟩
     case measure=>simp[intOf];omega
   ·have he:¬(k:Int) > (fn:Int):=by omega
    have HW:=hd (hf.out wr Hc ha rfl);clear HP hf ha;go_wp2_with (go_at_call 80;refine(qdu s[k] _ Pl.qah _ rfl (by decide)).mono ?_;rintro e w' ⟨rfl,rfl⟩;rw[hc])
    go_roundw
    case rel=>exact⟨k+1,k+1,_,by omega,by go_num,by go_num,HW⟩
    case measure=>simp[intOf];omega
namespace Pl
def qt3(l:List UInt8):List (List UInt8):=if l=[46] then[] else Go.Lib.split l [46]
theorem qz5{l:List UInt8}(h:(46:UInt8)∉l):Go.Lib.split l [46]=[l]:=by
 unfold Go.Lib.split;rw[Go.Lib.count_one,List.count_eq_zero.2 h];rfl
theorem qz6{a:List UInt8}(r:List UInt8)(h:(46:UInt8)∉a):Go.Lib.split (a++46::r) [46]=a::Go.Lib.split r [46]:=by
 have hi:Go.Lib.index (a++46::r) [46]=(a.length:Int):=by
  refine Go.Lib.index_first (by simp) ?_ ?_
  ·unfold Go.Lib.occAt;rw[List.drop_left];simp[List.isPrefixOf]
  ·intro j hj
   unfold Go.Lib.occAt;rw[List.drop_append_of_le_length (by omega),List.drop_eq_getElem_cons hj,Bool.eq_false_iff];intro q;simp only[List.cons_append,List.isPrefixOf,Bool.and_true,beq_iff_eq]at q;exact h (q▸List.getElem_mem hj)
 unfold Go.Lib.split;rw[Go.Lib.count_one,Go.Lib.count_one,List.count_append,List.count_eq_zero.2 h,List.count_cons_self,Nat.zero_add]
 conv=>lhs;unfold Go.Lib.splitK
 rw[hi,if_neg (by rw[beq_iff_eq];omega)];have e2:((a.length:Nat):Int).toNat=a.length:=by omega
 rw[e2,Nat.add_zero,List.take_left,show a.length+[(46:UInt8)].length=(a++[46]).length by simp,show a++46::r=(a++[46])++r by simp,List.drop_left]
theorem qzh(l:List UInt8)(f k:Nat)(hf:f≤k):l.drop f=cur l f k++l.drop k:=by
 unfold cur;have:=(List.take_append_drop (k - f) (l.drop f)).symm
 rwa [List.drop_drop,show f+(k - f)=k by omega]at this
theorem qmt(l:List UInt8)(f k:Nat)(hf:f≤k)(hn:(46:UInt8)∉cur l f k)(h:l[k]?=some 46):Go.Lib.split (l.drop f) [46]=cur l f k::Go.Lib.split (l.drop (k+1)) [46]:=by
 obtain⟨h1,h2⟩:=List.getElem?_eq_some_iff.1 h;rw[qzh l f k hf,List.drop_eq_getElem_cons h1,h2];exact qz6 _ hn
theorem qms(l:List UInt8)(f k:Nat)(hf:f≤k)(hn:(46:UInt8)∉cur l f k)(h:k=l.length):Go.Lib.split (l.drop f) [46]=[cur l f k]:=by
 rw[qzh l f k hf,h,List.drop_length,List.append_nil,←h];exact qz5 hn
end Pl
structure NmAt(B:Nat)(w wr:World)(s:ByteArray)(v:Value)(acc:List (List UInt8))(f k:Nat):Prop where
 own:qgc B wr v acc
 below:Below B w wr
 fk:f≤k
 len:acc.length≤k
 al:acc.all Pl.qa6=true
 no:(46:UInt8)∉Pl.cur s.data.toList f k
 eq:k≤s.size→Go.Lib.split s.data.toList [46]=acc++Go.Lib.split (s.data.toList.drop f) [46]
 fin:s.size<k→Go.Lib.split s.data.toList [46]=acc
theorem qjv(s:ByteArray)(w:World)(hs:s.size≤1000000) :
  Calls Tryz.prog 120 #[.string s] w fun e w'=>(∃v,e=.returned (.tuple #[v,.bool (Pl.isNm s.data.toList)])∧∃L,qgc w.heap.size w' v L∧(Pl.isNm s.data.toList=true→L=Pl.qt3 s.data.toList))∧Below w.heap.size w w':=by
 obtain⟨i0,hi,hl,Hl,hm⟩:=info_parts quj;by_cases ha:s.toList==[46]
 ·have HD:Hid (Pl.isNm s.data.toList=true∧Pl.qt3 s.data.toList=[]):=by
   rw[ByteArray.toList_eq,beq_iff_eq]at ha;exact⟨by unfold Pl.isNm;rw[ha];rfl,by unfold Pl.qt3;rw[if_pos ha]⟩
  go_enter Tryz.func120,Tryz.ntmps120
  go_wp2
  go_ret2
  exact⟨⟨_,by rw[HD.out.1];rfl,[],World.ownsRow_nil _ _ _ _,fun _=>HD.out.2.symm⟩,Below.refl _ _⟩
 have ha:=Bool.eq_false_iff.2 ha;have HD:Hid (s.data.toList≠[46]):=by
  intro e;rw[ByteArray.toList_eq,e]at ha;cases ha
 go_enter Tryz.func120,Tryz.ntmps120
 go_wp2_with fail
 clear ha;go_loopw [4,5,6,7] (fun v f i _ wr=>∃(k fn:Nat) (acc:List (List UInt8)),k≤s.size+1∧i=.int .i64 k∧f=.int .i64 fn∧Hid (NmAt w.heap.size w wr s v acc fn k)) (fun _ _ i _ _=>s.size+1 - (intOf i).toNat)
 case atStart=>exact⟨0,0,[],Nat.zero_le _,rfl,rfl,⟨World.ownsRow_nil _ _ _ _,Below.refl _ _,Nat.le_refl _,Nat.le_refl _,rfl,by rw[Pl.qpd];exact List.not_mem_nil,fun _=>rfl,fun h=>absurd h (Nat.not_lt_zero _)⟩⟩
 case round=>
  obtain⟨k,fn,acc,hk,rfl,rfl,H⟩:=hrel;have hz:=H.out.below.size;have hf:=H.out.fk;have ho:=H.out.len;obtain⟨ao,cap,rfl⟩:=H.out.own.slice;by_cases Hg:k≤s.size
  rotate_left
  ·have Hi:¬(k:Int)≤(s.size:Int):=by omega
   have HE:Hid (Pl.isNm s.data.toList=decide ((acc.length:Int)≤4)∧acc=Pl.qt3 s.data.toList):=by
    have e:=H.out.fin (by omega);refine⟨?_,?_⟩
    ·rw[qsk _ HD.out,e,H.out.al,Bool.and_true,Bool.eq_iff_iff,decide_eq_true_iff,decide_eq_true_iff];omega
    ·unfold Pl.qt3;rw[if_neg HD.out,e]
   go_wp2_with fail
   go_ret2
   exact⟨⟨_,by rw[HE.out.1];rfl,acc,H.out.own,fun _=>HE.out.2⟩,H.out.below⟩
  have Hi:(k:Int)≤(s.size:Int):=by omega
  have HX:Hid (Pl.cur s.data.toList fn k=(s.extract fn k).data.toList):=by show _=_;rw[qck];rfl
  have hg:Hid ((s.extract fn k).size≤1000000):=by
   show _≤_;rw[qck,qbz,List.length_take,List.length_drop];have:s.data.toList.length=s.size:=rfl;omega
  have HP:Hid (∀(v':Value) (w1:World),(k=s.size∨∃q:k<s.size,s[k]=46)→Pl.qa6 (s.extract fn k).data.toList=true→w1.ownsRow w.heap.size 9 1 v' (acc.length+1) (qke acc++[.string (s.extract fn k)])→Below w.heap.size w w1→NmAt w.heap.size w w1 s v' (acc++[Pl.cur s.data.toList fn k]) (k+1) (k+1)):=by
   intro v' w1 hc Hc hj hb;have e:=H.out.eq Hg;refine⟨?_,hb,Nat.le_refl _,by rw[List.length_append];simp only[List.length_cons,List.length_nil];omega,?_,by rw[Pl.qpd];exact List.not_mem_nil,fun h2=>?_,fun h2=>?_⟩
   ·show w1.ownsRow _ _ _ _ _ _
    rw[qmr,List.length_append];unfold Pl.cur;rw[←qck];exact hj
   ·rw[List.all_append,H.out.al,HX.out]
    show (true && (Pl.qa6 (s.extract fn k).data.toList && true))=true;rw[Hc];rfl
   ·rcases hc with hc | ⟨q,hc⟩
    ·omega
    ·rw[e,Pl.qmt _ fn k hf H.out.no (by rw[qes s k q,hc]),List.append_assoc];rfl
   ·have hk:k=s.size:=by omega
    rw[e,Pl.qms _ fn k hf H.out.no hk]
  have HF:Hid ((k=s.size∨∃q:k<s.size,s[k]=46)→Pl.qa6 (s.extract fn k).data.toList=false→Pl.isNm s.data.toList=false):=by
   intro hc Hc;have e:=H.out.eq Hg;have Hm:Pl.cur s.data.toList fn k∈Go.Lib.split s.data.toList [46]:=by
    rw[e];refine List.mem_append_right _ ?_;rcases hc with hc | ⟨q,hc⟩
    ·rw[Pl.qms _ fn k hf H.out.no hc];exact List.mem_cons_self
    ·rw[Pl.qmt _ fn k hf H.out.no (by rw[qes s k q,hc])];exact List.mem_cons_self
   rw[qsk _ HD.out,Bool.eq_false_iff];intro q;rw[Bool.and_eq_true]at q;have:=List.all_eq_true.1 q.2 _ Hm;rw[HX.out,Hc]at this;cases this
  have he:=(show Hid (qgc w.heap.size wr (.slice ao acc.length cap) acc) from H.out.own);have He:=(show Hid (Below w.heap.size w wr) from H.out.below);by_cases hq:k=s.size
  ·subst hq
   have hn:((s.size:Int)==(s.size:Int))=true:=by rw[beq_iff_eq]
   cases Hc:Pl.qa6 (s.extract fn s.size).data.toList
   ·have HV:=hd (HF.out (.inl rfl) Hc)
    clear H HP HF HX;go_wp2_with (go_at_call 52;refine(qfx _ _ hg.out).mono ?_;rintro e w' ⟨rfl,rfl⟩;rw[Hc])
    go_ret2
    exact⟨⟨_,by rw[HV.out];rfl,[],World.ownsRow_nil _ _ _ _,fun q=>by rw[HV.out]at q;cases q⟩,He.out⟩
   ·clear H HF HX
    go_wp2_with (first | (go_at_call 52;refine(qfx _ _ hg.out).mono ?_;rintro e w' ⟨rfl,rfl⟩;rw[Hc]) | (at_builtin;refine wpList_append_own _ rfl _ _ 35 rfl w.heap.size 9 i0 (.string ⟨#[]⟩) 1 16 Tryz.underlying35 hi hl Hl hm rfl (by decide) _ _ _ rfl (World.ownsRow.alloc he.out _) ⟨wr.heap.size,0,none⟩ 1 1 [.string (s.extract fn s.size)] rfl rfl (qc3 _ _ _) (by intro u hu;simp at hu;subst hu;rfl) (by unfold maxLen;omega) (by omega) (by simp;omega) ?_))
    ·intro v' w1 Ha Hb _
     have Hf:Below w.heap.size w w1:=qio (Below.alloc He.out hz _) (World.ownsRow.alloc he.out _) Hb (by simp;omega);have HW:=hd (HP.out v' w1 (.inl trivial) Hc Ha Hf);clear HP Ha Hf Hb Hc;go_wp2
     go_roundw
     case rel=>exact⟨s.size+1,s.size+1,_,by omega,by go_num,by go_num,HW⟩
     case measure=>simp[intOf]
  ·have Hj:k<s.size:=by omega
   have Hn:(k:Int)<(s.size:Int):=by omega
   have hn:((k:Int)==(s.size:Int))=false:=by rw[beq_eq_false_iff_ne];omega
   by_cases hc:s[k]=46
   ·have Hk:((s[k].toNat:Int)==46)=true:=by rw[hc];rfl
    cases Hc:Pl.qa6 (s.extract fn k).data.toList
    ·have HV:=hd (HF.out (.inr ⟨Hj,hc⟩) Hc)
     clear H HP HF HX hc;go_wp2_with (go_at_call 52;refine(qfx _ _ hg.out).mono ?_;rintro e w' ⟨rfl,rfl⟩;rw[Hc])
     go_ret2
     exact⟨⟨_,by rw[HV.out];rfl,[],World.ownsRow_nil _ _ _ _,fun q=>by rw[HV.out]at q;cases q⟩,He.out⟩
    ·have HP:=hd (fun v' w1=>HP.out v' w1 (.inr ⟨Hj,hc⟩) Hc)
     clear H HF HX hc;go_wp2_with (first | (go_at_call 52;refine(qfx _ _ hg.out).mono ?_;rintro e w' ⟨rfl,rfl⟩;rw[Hc]) | (at_builtin;refine wpList_append_own _ rfl _ _ 35 rfl w.heap.size 9 i0 (.string ⟨#[]⟩) 1 16 Tryz.underlying35 hi hl Hl hm rfl (by decide) _ _ _ rfl (World.ownsRow.alloc he.out _) ⟨wr.heap.size,0,none⟩ 1 1 [.string (s.extract fn k)] rfl rfl (qc3 _ _ _) (by intro u hu;simp at hu;subst hu;rfl) (by unfold maxLen;omega) (by omega) (by simp;omega) ?_))
     ·intro v' w1 Ha Hb _
      have Hf:Below w.heap.size w w1:=qio (Below.alloc He.out hz _) (World.ownsRow.alloc he.out _) Hb (by simp;omega);have HW:=hd (HP.out v' w1 Ha Hf);clear HP Ha Hf Hb Hc;go_wp2
      go_roundw
      case rel=>exact⟨k+1,k+1,_,by omega,by go_num,by go_num,HW⟩
      case measure=>simp[intOf];omega
   ·have Hk:((s[k].toNat:Int)==46)=false:=by
     have:=Pl.qh3 s[k] 46 (by decide);rw[beq_eq_false_iff_ne.2 (show s[k]≠UInt8.ofNat 46 from hc)]at this;exact this
    have HN:Hid (NmAt w.heap.size w wr s (.slice ao acc.length cap) acc fn (k+1)):=
     ⟨H.out.own,H.out.below,by omega,by omega,H.out.al,by
      rw[Pl.qzj _ fn k _ hf (qes s k Hj)];intro q;rcases List.mem_append.1 q with q | q
      ·exact H.out.no q
      ·exact hc (List.mem_singleton.1 q).symm,fun _=>H.out.eq Hg,fun h2=>by omega⟩
    clear H HP HF HX hc;go_wp2_with fail
    go_roundw
    case rel=>exact⟨k+1,fn,acc,by omega,by go_num,rfl,HN⟩
    case measure=>simp[intOf];omega
end Go.Proofs.YtfkhljmiehdgmaaGreatDoor
