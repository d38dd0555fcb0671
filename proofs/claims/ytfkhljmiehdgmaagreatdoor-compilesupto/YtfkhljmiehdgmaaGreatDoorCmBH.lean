/-
  Steps of the proof.
-/
import Derived.Test.YtfkhljmiehdgmaaGreatDoorCmBF
set_option maxRecDepth 100000
set_option maxHeartbeats 40000000
namespace Go.Proofs.YtfkhljmiehdgmaaGreatDoor
open Go.RowKit
theorem qu7(t:List UInt8)(a:Nat):((⟨t.toArray⟩:ByteArray).extract 0 a).data.toList=t.take a:=by
 rw[qgu];simp
theorem qm8(t:List UInt8)(z:Nat):((⟨t.toArray⟩:ByteArray).extract z t.length).data.toList=t.drop z:=by
 rw[qgu];show(t.drop z).take (t.length - z)=t.drop z;exact List.take_of_length_le (by simp)
theorem q9f(l:List UInt8):l=[]\/∃A b,l=A++[b]:=by
 rcases List.eq_nil_or_concat l with h|⟨A,b,h⟩
 ·exact .inl h
 ·exact .inr ⟨A,b,by simpa using h⟩
theorem qf2(l:List UInt8):(⟨l.toArray⟩:ByteArray).toList.isEmpty=l.isEmpty:=by rw[Lib.toList_data]
theorem qny(A:List UInt8)(b:UInt8)(hh:A.length<(⟨(A++[b]).toArray⟩:ByteArray).size):(⟨(A++[b]).toArray⟩:ByteArray)[A.length]'hh=b:=by
 show(A++[b]).toArray[A.length]'_=b;simp
theorem qlo(b:UInt8)(L:List UInt8)(hh:0<(⟨(b::L).toArray⟩:ByteArray).size):(⟨(b::L).toArray⟩:ByteArray)[0]'hh=b:=rfl
theorem qbz(l:List UInt8):(⟨l.toArray⟩:ByteArray).size=l.length:=by simp[ByteArray.size]
theorem q6j(w:World)(B g:Nat)(t:List UInt8)(c:Pl.Ct)(vp vo:Value)(h:CtAt w B g t c vp vo)(a z:Nat)(ha:a<=t.length)(hz:z<=t.length)(ht:t.length<=2000) :
  Calls Tryz.prog 151 #[.pointer (some ⟨g,0,none⟩),.int .i64 a,.int .i64 z] w fun e w'=>e=.returned (.tuple #[.int .i64 (Pl.qeg t a z).1,.int .i64 (Pl.qeg t a z).2])/\Below w.heap.size w w':=by
 have hT:∀w,Calls Tryz.prog 204 #[.string ((⟨t.toArray⟩:ByteArray).extract 0 a),.string ⟨#[9,12,13,32]⟩] w fun e w'=>e=.returned (bs (Lib.trimRightS (t.take a) Pl.qdp))/\Below w.heap.size w w':=fun w=>by
  have:=qp0 ((⟨t.toArray⟩:ByteArray).extract 0 a) w (by rw[qgu,qbz];simp;omega);rw[qu7]at this;exact this
 have hL:∀w,Calls Tryz.prog 196 #[.string ((⟨t.toArray⟩:ByteArray).extract z t.length),.string ⟨#[9,12,13,32]⟩] w fun e w'=>e=.returned (bs (Lib.trimLeftS (t.drop z) Pl.qdp))/\Below w.heap.size w w':=fun w=>by
  have:=qr2 ((⟨t.toArray⟩:ByteArray).extract z t.length) w;rw[qm8]at this;exact this
 have Hc:=Pl.qk8 (t.take a) Pl.qdp;have he:=Pl.qib (t.drop z) Pl.qdp;unfold Pl.qeg;rw[List.length_take]at Hc;rw[List.length_drop]at he;generalize Lib.trimRightS (t.take a) Pl.qdp=A at *;generalize Lib.trimLeftS (t.drop z) Pl.qdp=Y at *;have hP:∀w,Calls Tryz.prog 205 #[.string ⟨Y.toArray⟩,.string ⟨#[10]⟩] w fun e w'=>e=.returned (.string ⟨(Lib.trimPrefix Y [10]).toArray⟩)/\w=w':=fun w=>by
  refine(Tryz.strings_TrimPrefix ⟨Y.toArray⟩ ⟨#[10]⟩ w).mono ?_;rintro e w' ⟨rfl,rfl⟩;exact⟨rfl,rfl⟩
 have He:=Pl.qyq Y [10];have Ha:(⟨(Lib.trimPrefix Y [10]).toArray⟩:ByteArray).size<=t.length:=by rw[qbz];omega
 have fin:(t.length:Int) - ((⟨(Lib.trimPrefix Y [10]).toArray⟩:ByteArray).size:Int)=((t.length - (Lib.trimPrefix Y [10]).length:Nat):Int):=by rw[qbz];omega
 unfold bs at hT hL;rcases q9f A with rfl|⟨A,b,rfl⟩
 ·rcases Y with _ | ⟨y,Y⟩
  ·have:=q87 w B g t c vp vo h a z ha hz ht _ _ hT hL _ hP Ha (qf2 []) (qf2 [])
   rw[fin]at this;exact this
  ·by_cases hy:y=10
   ·have:=q86 w B g t c vp vo h a z ha hz ht _ _ hT hL _ hP Ha (qf2 []) (by rw[qf2];rfl) (by rw[qbz];simp) (by rw[qlo];exact hy)
    rw[fin]at this;simp only[List.getLast?_nil,Option.any_none,List.head?_cons,Option.any_some,hy,bne_self_eq_false,Bool.or_self,Bool.false_eq_true,if_false];rw[hy]at this;exact this
   ·have:=q88 w B g t c vp vo h a z ha hz ht _ _ hT hL (qf2 []) (by rw[qf2];rfl) (by rw[qbz];simp) (by rw[qlo];exact hy)
    have hb:(y != 10)=true:=by simpa using hy
    simp only[List.getLast?_nil,Option.any_none,List.head?_cons,Option.any_some,hb,Bool.or_true,if_true];exact this
 ·have hE:(⟨(A++[b]).toArray⟩:ByteArray).toList.isEmpty=false:=by rw[qf2];simp
  have hS:(⟨(A++[b]).toArray⟩:ByteArray).size=A.length+1:=by rw[qbz];simp
  have Hb:A.length<=100000:=by simp at Hc;omega
  by_cases hb:b=10
  ·rcases Y with _ | ⟨y,Y⟩
   ·have:=q84 w B g t c vp vo h a z ha hz ht _ _ hT hL _ hP Ha hE A.length hS Hb (fun hh=>by rw[qny];exact hb) (qf2 [])
    rw[fin,qbz]at this;simp only[List.getLast?_concat,Option.any_some,hb,bne_self_eq_false,List.head?_nil,Option.any_none,Bool.or_self,Bool.false_eq_true,if_false];rw[hb]at this;exact this
   ·by_cases hy:y=10
    ·have:=q83 w B g t c vp vo h a z ha hz ht _ _ hT hL _ hP Ha hE A.length hS Hb (fun hh=>by rw[qny];exact hb) (by rw[qf2];rfl) (by rw[qbz];simp) (by rw[qlo];exact hy)
     rw[fin,qbz]at this;simp only[List.getLast?_concat,Option.any_some,hb,hy,bne_self_eq_false,List.head?_cons,Bool.or_self,Bool.false_eq_true,if_false];rw[hb,hy]at this;exact this
    ·have:=q85 w B g t c vp vo h a z ha hz ht _ _ hT hL hE A.length hS Hb (fun hh=>by rw[qny];exact hb) (by rw[qf2];rfl) (by rw[qbz];simp) (by rw[qlo];exact hy)
     have hc:(y != 10)=true:=by simpa using hy
     simp only[List.head?_cons,Option.any_some,hc,Bool.or_true,if_true];exact this
  ·have:=q89 w B g t c vp vo h a z ha hz ht _ _ hT hL hE A.length hS Hb (fun hh=>by rw[qny];exact hb)
   have hc:(b != 10)=true:=by simpa using hb
   simp only[List.getLast?_concat,Option.any_some,hc,Bool.true_or,if_true];exact this
namespace Pl
def lnF(s:List UInt8):Nat->Nat
 |0=>0
 |k+1=>if s[k]?=some 10 then k+1 else lnF s k
def lnT(s:List UInt8)(z:Nat):Nat:=z+((s.drop z).takeWhile (·!= 10)).length
def emp(s:List UInt8)(a b:Nat):Bool:=((s.drop a).take (b - a)).all (fun x=>among x qah)
theorem qy8(s:List UInt8):∀k,lnF s k<=k
 |0=>Nat.le_refl _
 |k+1=>by
   unfold lnF;split
   ·exact Nat.le_refl _
   ·exact Nat.le_succ_of_le (qy8 s k)
theorem q7x(s:List UInt8)(z:Nat)(h:z<=s.length):z<=lnT s z/\lnT s z<=s.length:=by
 unfold lnT;have:=(List.takeWhile_sublist (p:=fun x:UInt8=>x != 10) (l:=s.drop z)).length_le;rw[List.length_drop]at this;omega
theorem qy7(s:List UInt8)(z:Nat)(h:s[z]?=some 10\/s.length<=z):lnT s z=z:=by
 unfold lnT;rcases h with h|h
 ·obtain⟨h1,h2⟩:=List.getElem?_eq_some_iff.1 h
  rw[List.drop_eq_getElem_cons h1,h2];rfl
 ·rw[List.drop_of_length_le h];rfl
theorem q6i(s:List UInt8)(z:Nat)(b:UInt8)(h:s[z]?=some b)(hb:b≠10):lnT s z=lnT s (z+1):=by
 obtain⟨h1,h2⟩:=List.getElem?_eq_some_iff.1 h;unfold lnT;rw[List.drop_eq_getElem_cons h1,h2,List.takeWhile_cons_of_pos (by simpa using hb),List.length_cons];omega
theorem q9x(s:List UInt8)(a b:Nat)(h:b<=a):emp s a b=true:=by
 unfold emp;rw[show b - a=0 by omega];rfl
theorem q69(s:List UInt8)(a b:Nat)(x:UInt8)(h:a<b)(hx:s[a]?=some x):emp s a b=(among x qah && emp s (a+1) b):=by
 obtain⟨h1,h2⟩:=List.getElem?_eq_some_iff.1 hx;unfold emp;rw[List.drop_eq_getElem_cons h1,h2,show b - a=(b - (a+1))+1 by omega];rfl
theorem qj1(b:UInt8)(l:List UInt8):among b l=l.contains b:=by
 rw[Bool.eq_iff_iff,qg8,List.contains_iff_mem]
theorem zag(X:ByteArray)(h:0<X.size)(hb:among X[0] qah=true):Go.Lib.trimLeftS X.data.toList qah=Go.Lib.trimLeftS (X.extract 1 X.size).data.toList qah:=by
 rw[extract_drop];have h0:0<X.data.toList.length:=h;have e:X.data.toList=X[0]::X.data.toList.drop 1:=by
  have:=List.drop_eq_getElem_cons h0
  rwa [List.drop_zero]at this
 show _=Go.Lib.trimLeftS (X.data.toList.drop 1) qah;unfold Go.Lib.trimLeftS;rw[congrArg (List.dropWhile _) e,List.dropWhile_cons_of_pos (by rw[<-qj1];exact hb)]
theorem za4(X:ByteArray)(h:∀q:0<X.size,among X[0] qah=false):Go.Lib.trimLeftS X.data.toList qah=X.data.toList:=by
 unfold Go.Lib.trimLeftS;by_cases q:0<X.data.toList.length
 ·have e:X.data.toList=X[0]::X.data.toList.drop 1:=by
   have:=List.drop_eq_getElem_cons q
   rwa [List.drop_zero]at this
  rw[e,List.dropWhile_cons_of_neg (by rw[<-qj1,h q];simp)]
 ·rw[List.eq_nil_of_length_eq_zero (by omega:X.data.toList.length=0)];rfl
theorem qmc(X:ByteArray)(h:0<X.size):X.data.toList=X.data.toList.take (X.size - 1)++[X[X.size - 1]]:=by
 have:=qc9 X (X.size - 1) (by omega);rw[Nat.sub_add_cancel h,qeu X _ (Nat.le_refl _)]at this;exact this
theorem zae(X:ByteArray)(h:0<X.size)(hb:among X[X.size - 1] qah=true):Go.Lib.trimRightS X.data.toList qah=Go.Lib.trimRightS (X.extract 0 (X.size - 1)).data.toList qah:=by
 rw[extract_take];show _=Go.Lib.trimRightS (X.data.toList.take (X.size - 1)) qah;unfold Go.Lib.trimRightS;rw[congrArg List.reverse (qmc X h),List.reverse_append,List.reverse_cons,List.reverse_nil,List.nil_append,List.singleton_append,List.dropWhile_cons_of_pos (by rw[<-qj1];exact hb)]
theorem zaf(X:ByteArray)(h:∀q:0<X.size,among X[X.size - 1] qah=false):Go.Lib.trimRightS X.data.toList qah=X.data.toList:=by
 unfold Go.Lib.trimRightS;by_cases q:0<X.size
 ·rw[congrArg List.reverse (qmc X q),List.reverse_append,List.reverse_cons,List.reverse_nil,List.nil_append,List.singleton_append,List.dropWhile_cons_of_neg (by rw[<-qj1,h q];simp),
   List.reverse_cons,List.reverse_reverse]
  exact(qmc X q).symm
 ·rw[List.eq_nil_of_length_eq_zero (show X.data.toList.length=0 from by have:X.data.toList.length=X.size:=rfl;omega)];rfl
theorem qr3(x:UInt8)(t cs:List UInt8):Go.Lib.trimRightS (x::t) cs=if Go.Lib.trimRightS t cs=[]then(if cs.contains x=true then[]else[x])else x::Go.Lib.trimRightS t cs:=by
 unfold Go.Lib.trimRightS;rw[List.reverse_cons,List.dropWhile_append];cases h:t.reverse.dropWhile (cs.contains ·)with
 |nil=>
   show(List.dropWhile (cs.contains ·) [x]).reverse=(if cs.contains x=true then[]else[x]);by_cases q:cs.contains x=true
   ·rw[if_pos q,List.dropWhile_cons_of_pos q];rfl
   ·rw[if_neg q,List.dropWhile_cons_of_neg q];rfl
 |cons a l=>simp
theorem qod(cs:List UInt8):∀l:List UInt8,Go.Lib.trimRightS (Go.Lib.trimLeftS l cs) cs=Go.Lib.trimS l cs
 |[]=>rfl
 |x::t=>by
   have ih:=qod cs t;unfold Go.Lib.trimS at ih |-;rw[qr3];by_cases q:cs.contains x=true
   ·have e:Go.Lib.trimLeftS (x::t) cs=Go.Lib.trimLeftS t cs:=List.dropWhile_cons_of_pos q
    rw[e,ih,if_pos q];by_cases z:Go.Lib.trimRightS t cs=[]
    ·rw[if_pos z,z]
    ·rw[if_neg z]
     exact(List.dropWhile_cons_of_pos q).symm
   ·have e:Go.Lib.trimLeftS (x::t) cs=x::t:=List.dropWhile_cons_of_neg q
    rw[e,qr3,if_neg q];split
    ·exact(List.dropWhile_cons_of_neg q).symm
    ·exact(List.dropWhile_cons_of_neg q).symm
end Pl
theorem qx4(s:ByteArray)(a b:Nat)(w:World)(hs:s.size<=1000000)(hb:b<=s.size)(Ha:a<=b) :
  Calls Tryz.prog 86 #[.string s,.int .i64 a,.int .i64 b] w fun e w'=>e=.returned (.bool (Pl.emp s.data.toList a b))/\w=w':=by
 go_enter Tryz.func86,Tryz.ntmps86
 go_wp2
 go_loop [7] (fun i=>∃k:Nat,k<=b/\i=.int .i64 k/\Hid (Pl.emp s.data.toList a b=Pl.emp s.data.toList k b)) (fun i=>b - (intOf i).toNat)
 case atStart=>exact⟨a,Ha,rfl,by show _=_;rfl⟩
 case round=>
  obtain⟨k,hk,rfl,HN⟩:=hrel;by_cases Hb:k<b
  ·have ha:(k:Int)<(b:Int):=by omega
   have Hc:k<s.size:=by omega
   have he:(k:Int)<(s.size:Int):=by omega
   have HE:=hd (Pl.q69 s.data.toList k b s[k] Hb (qev s k Hc));by_cases hc:Pl.among s[k] Pl.qah=true
   ·go_wp2_with (go_at_call 80;refine(qdx s[k] _ Pl.qah _ rfl (by decide)).mono ?_;rintro e w' ⟨rfl,rfl⟩;rw[hc])
    go_round
    case rel=>exact⟨k+1,by omega,by go_num,by show _=_;rw[HN.out,HE.out,hc];rfl⟩
    case measure=>simp[intOf];omega
   ·have hc:=Bool.eq_false_iff.2 hc
    go_wp2_with (go_at_call 80;refine(qdx s[k] _ Pl.qah _ rfl (by decide)).mono ?_;rintro e w' ⟨rfl,rfl⟩;rw[hc])
    go_ret
    exact⟨by rw[HN.out,HE.out,hc];rfl,rfl⟩
  ·have ha:decide ((k:Int)<(b:Int))=false:=by rw[decide_eq_false_iff_not];omega
   have HF:=hd (HN.out.trans (Pl.q9x _ _ _ (by omega)));go_wp2
   go_ret
   exact⟨by rw[HF.out];rfl,rfl⟩
theorem quo(s:ByteArray)(a:Nat)(w:World)(hs:s.size<=1000000)(ha:a<=s.size) :
  Calls Tryz.prog 84 #[.string s,.int .i64 a] w fun e w'=>e=.returned (.int .i64 (Pl.lnF s.data.toList a))/\w=w':=by
 go_enter Tryz.func84,Tryz.ntmps84
 go_wp2
 go_loop [1] (fun i=>∃k:Nat,k<=a/\i=.int .i64 k/\Hid (Pl.lnF s.data.toList a=Pl.lnF s.data.toList k)) (fun i=>(intOf i).toNat)
 case atStart=>exact⟨a,Nat.le_refl _,rfl,by show _=_;rfl⟩
 case round=>
  obtain⟨k,hk,rfl,HN⟩:=hrel
  match k,hk with
  |0,_=>
    go_wp2
    go_ret
    exact⟨by rw[HN.out];rfl,rfl⟩
  |k+1,hk=>
    have Ha:k<s.size:=by omega
    have e1:(((k+1:Nat):Int) - 1)=(k:Int):=by omega
    have e0:(((k+1:Nat):Int) > 0):=by omega
    have hb:(k:Int)<(s.size:Int):=by omega
    have HE:Hid (Pl.lnF s.data.toList (k+1)=if s[k]=10 then k+1 else Pl.lnF s.data.toList k):=by
     show _=_
     conv=>lhs;unfold Pl.lnF
     rw[qev s k Ha];simp only[Option.some.injEq]
    by_cases hc:s[k]=10
    ·have hq:((s[k].toNat:Int)==10)=true:=by rw[hc];rfl
     go_wp2
     go_ret
     exact⟨by rw[HN.out,HE.out,if_pos hc];rfl,rfl⟩
    ·have hq:((s[k].toNat:Int)==10)=false:=by
      have:=Pl.qh5 s[k] 10 (by decide);rw[beq_eq_false_iff_ne.2 (show s[k]≠UInt8.ofNat 10 from hc)]at this;exact this
     go_wp2
     go_round
     case rel=>exact⟨k,by omega,by go_num,by show _=_;rw[HN.out,HE.out,if_neg hc]⟩
     case measure=>simp[intOf]
theorem q1b(s:ByteArray)(a:Nat)(w:World)(hs:s.size<=1000000)(ha:a<=s.size) :
  Calls Tryz.prog 85 #[.string s,.int .i64 a] w fun e w'=>e=.returned (.int .i64 (Pl.lnT s.data.toList a))/\w=w':=by
 go_enter Tryz.func85,Tryz.ntmps85
 go_wp2
 go_loop [1] (fun i=>∃k:Nat,k<=s.size/\i=.int .i64 k/\Hid (Pl.lnT s.data.toList a=Pl.lnT s.data.toList k)) (fun i=>s.size - (intOf i).toNat)
 case atStart=>exact⟨a,ha,rfl,by show _=_;rfl⟩
 case round=>
  obtain⟨k,hk,rfl,HN⟩:=hrel;by_cases hb:k<s.size
  ·have Ha:(k:Int)<(s.size:Int):=by omega
   by_cases hc:s[k]=10
   ·have HF:=hd (HN.out.trans (Pl.qy7 _ k (.inl (by rw[qev s k hb,hc]))))
    have hq:((s[k].toNat:Int)==10)=true:=by rw[hc];rfl
    go_wp2
    go_ret
    exact⟨by rw[HF.out];rfl,rfl⟩
   ·have HF:=hd (HN.out.trans (Pl.q6i _ k _ (qev s k hb) hc))
    have hq:((s[k].toNat:Int)==10)=false:=by
     have:=Pl.qh5 s[k] 10 (by decide);rw[beq_eq_false_iff_ne.2 (show s[k]≠UInt8.ofNat 10 from hc)]at this;exact this
    go_wp2
    go_round
    case rel=>exact⟨k+1,by omega,by go_num,HF⟩
    case measure=>simp[intOf];omega
  ·have Ha:decide ((k:Int)<(s.size:Int))=false:=by rw[decide_eq_false_iff_not];omega
   have HF:=hd (HN.out.trans (Pl.qy7 _ k (.inr (by show s.size<=k;omega))));go_wp2
   go_ret
   exact⟨by rw[HF.out];rfl,rfl⟩
theorem qoc(s:ByteArray)(w:World)(hs:s.size<=1000000) :
  Calls Tryz.prog 82 #[.string s] w fun e w'=>e=.returned (.string ⟨(Go.Lib.trimS s.data.toList Pl.qah).toArray⟩)/\w=w':=by
 go_enter Tryz.func82,Tryz.ntmps82
 go_wp2
 go_loop [0] (fun v=>∃X:ByteArray,X.size<=s.size/\v=.string X/\Hid (Go.Lib.trimLeftS s.data.toList Pl.qah=Go.Lib.trimLeftS X.data.toList Pl.qah)) (fun v=>match v with|.string X=>X.size|_=>0)
 case atStart=>exact⟨s,Nat.le_refl _,rfl,by show _=_;rfl⟩
 case round=>
  obtain⟨X,hX,rfl,HN⟩:=hrel;by_cases hp:0<X.size/\∃q:0<X.size,Pl.among X[0] Pl.qah=true
  ·obtain⟨Ha,_,hc⟩:=hp
   have ha:(X.size:Int) > 0:=by omega
   have HF:=hd (HN.out.trans (Pl.zag X Ha hc));have hz:(X.extract 1 X.size).size<X.size:=by rw[Pl.extract_drop,qbz,List.length_drop];show X.size - 1<X.size;omega
   clear HN;go_wp2_with (go_at_call 80;refine(qdx X[0] _ Pl.qah _ rfl (by decide)).mono ?_;rintro e w' ⟨rfl,rfl⟩;rw[hc])
   go_round
   case rel=>exact⟨_,by omega,rfl,HF⟩
   case measure=>exact hz
  ·have hF:Go.Lib.trimLeftS X.data.toList Pl.qah=X.data.toList:=Pl.za4 X (fun q=>by
    rw[Bool.eq_false_iff];exact fun z=>hp ⟨q,q,z⟩)
   have HF:=hd (HN.out.trans hF);clear HN hF;have HK:Hid (∀Y:ByteArray,Y.size<=X.size->Go.Lib.trimRightS Y.data.toList Pl.qah=Y.data.toList->Go.Lib.trimRightS X.data.toList Pl.qah=Go.Lib.trimRightS Y.data.toList Pl.qah->Y=⟨(Go.Lib.trimS s.data.toList Pl.qah).toArray⟩):=by
    intro Y _ h1 h2;rw[<-Pl.qod,HF.out,h2,h1]
   clear HF;by_cases Ha:0<X.size
   ·have ha:(X.size:Int) > 0:=by omega
    have hc:Pl.among X[0] Pl.qah=false:=Bool.eq_false_iff.2 (fun z=>hp ⟨Ha,Ha,z⟩);clear hp;go_wp2_with (go_at_call 80;refine(qdx X[0] _ Pl.qah _ rfl (by decide)).mono ?_;rintro e w' ⟨rfl,rfl⟩;rw[hc])
    clear hc;go_loop [0] (fun v=>∃Y:ByteArray,Y.size<=X.size/\v=.string Y/\Hid (Go.Lib.trimRightS X.data.toList Pl.qah=Go.Lib.trimRightS Y.data.toList Pl.qah)) (fun v=>match v with|.string X=>X.size|_=>0)
    case atStart=>exact⟨X,Nat.le_refl _,rfl,by show _=_;rfl⟩
    case round=>
     obtain⟨Y,hY,rfl,HN⟩:=hrel;by_cases hp:0<Y.size/\∃q:0<Y.size,Pl.among Y[Y.size - 1] Pl.qah=true
     ·obtain⟨Ha,_,hc⟩:=hp
      have ha:(Y.size:Int) > 0:=by omega
      have hb:(0:Int)<=(Y.size:Int) - 1:=by omega
      have HF:=hd (HN.out.trans (Pl.zae Y Ha hc));have hz:(Y.extract 0 (Y.size - 1)).size<Y.size:=by rw[Pl.extract_take,qbz,List.length_take];omega
      clear HN;go_wp2_with (go_at_call 80;refine(qdx Y[Y.size - 1] _ Pl.qah _ rfl (by decide)).mono ?_;rintro e w' ⟨rfl,rfl⟩;rw[hc])
      go_round
      case rel=>exact⟨_,by omega,rfl,HF⟩
      case measure=>exact hz
     ·have HF:=(show Hid _ from HK.out Y hY (Pl.zaf Y (fun q=>by
       rw[Bool.eq_false_iff];exact fun z=>hp ⟨q,q,z⟩)) HN.out)
      clear HN HK;by_cases Ha:0<Y.size
      ·have ha:(Y.size:Int) > 0:=by omega
       have hb:(0:Int)<=(Y.size:Int) - 1:=by omega
       have hc:Pl.among Y[Y.size - 1] Pl.qah=false:=Bool.eq_false_iff.2 (fun z=>hp ⟨Ha,Ha,z⟩);clear hp;go_wp2_with (go_at_call 80;refine(qdx Y[Y.size - 1] _ Pl.qah _ rfl (by decide)).mono ?_;rintro e w' ⟨rfl,rfl⟩;rw[hc])
       go_ret
       exact⟨qdd HF.out,rfl⟩
      ·have ha:decide ((Y.size:Int) > 0)=false:=by rw[decide_eq_false_iff_not];omega
       clear hp;go_wp2
       go_ret
       exact⟨qdd HF.out,rfl⟩
   ·have ha:decide ((X.size:Int) > 0)=false:=by rw[decide_eq_false_iff_not];omega
    clear hp;go_wp2
    go_loop [0] (fun v=>∃Y:ByteArray,Y.size<=X.size/\v=.string Y/\Hid (Go.Lib.trimRightS X.data.toList Pl.qah=Go.Lib.trimRightS Y.data.toList Pl.qah)) (fun v=>match v with|.string X=>X.size|_=>0)
    case atStart=>exact⟨X,Nat.le_refl _,rfl,by show _=_;rfl⟩
    case round=>
     obtain⟨Y,hY,rfl,HN⟩:=hrel;have HF:=hd (HK.out Y hY (Pl.zaf Y (fun q=>by omega)) HN.out);clear HN HK;have ha:decide ((Y.size:Int) > 0)=false:=by rw[decide_eq_false_iff_not];omega
     go_wp2
     go_ret
     exact⟨qdd HF.out,rfl⟩
theorem qux:(Tryz.prog.info? 9).map (fun i=>(i.zero,i.size,i.bytes))=some (some (.string ⟨#[]⟩),1,16):=by kernel_rfl
def qki(L:List (List UInt8)):List Value:=L.map fun l=>.string ⟨l.toArray⟩
theorem qmx(L:List (List UInt8))(l:List UInt8):qki (L++[l])=qki L++[.string ⟨l.toArray⟩]:=by unfold qki;simp
def qgf(B:Nat)(w:World)(v:Value)(L:List (List UInt8)):Prop:=w.ownsRow B 9 1 v L.length (qki L)
theorem qgf.slice{B:Nat}{w:World}{v:Value}{L:List (List UInt8)}(h:qgf B w v L):∃ao cap,v=.slice ao L.length cap:=qas h
theorem qck(s:ByteArray)(a z:Nat):s.extract a z=⟨((s.data.toList.drop a).take (z - a)).toArray⟩:=qgu s.data.toList a z
namespace Pl
def cur(l:List UInt8)(f k:Nat):List UInt8:=(l.drop f).take (k - f)
theorem qpk(l:List UInt8)(k:Nat):cur l k k=[]:=by unfold cur;rw[Nat.sub_self];rfl
theorem qzw(l:List UInt8)(f k:Nat)(b:UInt8)(hf:f<=k)(h:l[k]?=some b):cur l f (k+1)=cur l f k++[b]:=by
 obtain⟨h1,h2⟩:=List.getElem?_eq_some_iff.1 h;unfold cur;rw[show k+1 - f=(k - f)+1 by omega,List.take_succ_eq_append_getElem (by rw[List.length_drop];omega),List.getElem_drop]
 congr 2
 rw[<-h2];congr 1;omega
theorem q72(l:List UInt8)(f k:Nat)(hf:f<k)(hk:k<=l.length):cur l f k≠[]:=by
 intro e;have:=congrArg List.length e;unfold cur at this;rw[List.length_take,List.length_drop]at this;simp at this;omega
theorem qn4(l:List UInt8)(f k:Nat)(b:UInt8)(h:l[k]?=some b)(hb:among b qah=true)(hf:f<=k):qbn (cur l f k) (l.drop k)=if f<k then cur l f k::qbn (cur l (k+1) (k+1)) (l.drop (k+1))else qbn (cur l (k+1) (k+1)) (l.drop (k+1)):=by
 obtain⟨h1,h2⟩:=List.getElem?_eq_some_iff.1 h;rw[List.drop_eq_getElem_cons h1,h2,qpk]
 conv=>lhs;unfold qbn
 rw[if_pos hb];by_cases q:f<k
 ·rw[if_pos q,if_neg (q72 l f k q (by omega))]
 ·rw[if_neg q,show f=k by omega,qpk,if_pos rfl]
theorem qz2(l:List UInt8)(f k:Nat)(b:UInt8)(h:l[k]?=some b)(hb:among b qah=false)(hf:f<=k):qbn (cur l f k) (l.drop k)=qbn (cur l f (k+1)) (l.drop (k+1)):=by
 obtain⟨h1,h2⟩:=List.getElem?_eq_some_iff.1 h;rw[List.drop_eq_getElem_cons h1,h2,qzw l f k b hf h]
 conv=>lhs;unfold qbn
 rw[if_neg (by rw[hb];simp)]
theorem qtn(l:List UInt8)(f k:Nat)(hk:k=l.length)(hf:f<=k):qbn (cur l f k) (l.drop k)=if f<k then[cur l f k]else[]:=by
 rw[hk,List.drop_length];unfold qbn;by_cases q:f<k
 ·rw[<-hk,if_pos q,if_neg (q72 l f k q (by omega))]
 ·rw[<-hk,if_neg q,show f=k by omega,qpk,if_pos rfl]
end Pl
structure WdAt(B:Nat)(w wr:World)(s:ByteArray)(v:Value)(acc:List (List UInt8))(f k:Nat):Prop where
 own:qgf B wr v acc
 below:Below B w wr
 fk:f<=k
 len:acc.length<=k
 eq:k<=s.size->Pl.qfq s.data.toList=acc++Pl.qbn (Pl.cur s.data.toList f k) (s.data.toList.drop k)
 fin:s.size<k->Pl.qfq s.data.toList=acc
theorem q19(s:ByteArray)(w:World)(hs:s.size<=1000000) :
  Calls Tryz.prog 121 #[.string s] w fun e w'=>(∃v,e=.returned v/\qgf w.heap.size w' v (Pl.qfq s.data.toList))/\Below w.heap.size w w':=by
 obtain⟨i0,hi,Hk,hl,Hl⟩:=info_parts qux;go_enter Tryz.func121,Tryz.ntmps121
 go_wp2
 go_loopw [3,4,5] (fun v f i wr=>∃(k fn:Nat) (acc:List (List UInt8)),k<=s.size+1/\i=.int .i64 k/\f=.int .i64 fn/\Hid (WdAt w.heap.size w wr s v acc fn k)) (fun _ _ i _=>s.size+1 - (intOf i).toNat)
 case atStart=>exact⟨0,0,[],Nat.zero_le _,rfl,rfl,⟨World.ownsRow_nil _ _ _ _,Below.refl _ _,Nat.le_refl _,Nat.le_refl _,fun _=>rfl,fun h=>absurd h (Nat.not_lt_zero _)⟩⟩
 case round=>
  obtain⟨k,fn,acc,hk,rfl,rfl,H⟩:=hrel;have hz:=H.out.below.size;have Hf:=H.out.fk;have hn:=H.out.len;obtain⟨ao,cap,rfl⟩:=H.out.own.slice;by_cases Hi:k<=s.size
  rotate_left
  ·have hj:¬(k:Int)<=(s.size:Int):=by omega
   go_wp2_with fail
   go_ret
   exact⟨⟨_,rfl,by rw[H.out.fin (by omega)];exact H.out.own⟩,H.out.below⟩
  have hj:(k:Int)<=(s.size:Int):=by omega
  have HP:Hid (∀(v':Value) (w1:World),fn<k->(k=s.size\/∃q:k<s.size,Pl.among s[k] Pl.qah=true)->w1.ownsRow w.heap.size 9 1 v' (acc.length+1) (qki acc++[.string (s.extract fn k)])->Below w.heap.size w w1->WdAt w.heap.size w w1 s v' (acc++[Pl.cur s.data.toList fn k]) (k+1) (k+1)):=by
   intro v' w1 Hc hc Hj hb;have e:=H.out.eq Hi;refine⟨?_,hb,Nat.le_refl _,by rw[List.length_append];simp only[List.length_cons,List.length_nil];omega,fun h2=>?_,fun h2=>?_⟩
   ·show w1.ownsRow _ _ _ _ _ _
    rw[qmx,List.length_append];unfold Pl.cur;rw[<-qck];exact Hj
   ·rcases hc with hc | ⟨q,hc⟩
    ·omega
    ·rw[e,Pl.qn4 _ fn k _ (qev s k q) hc Hf,if_pos Hc,List.append_assoc];rfl
   ·have hk:k=s.size:=by omega
    rw[e,Pl.qtn _ fn k hk Hf,if_pos Hc]
  have hf:Hid (∀w1,¬fn<k->(k=s.size\/∃q:k<s.size,Pl.among s[k] Pl.qah=true)->w1=wr->WdAt w.heap.size w w1 s (.slice ao acc.length cap) acc (k+1) (k+1)):=by
   rintro w1 Hc hc rfl;have e:=H.out.eq Hi;refine⟨H.out.own,H.out.below,Nat.le_refl _,by omega,fun h2=>?_,fun h2=>?_⟩
   ·rcases hc with hc | ⟨q,hc⟩
    ·omega
    ·rw[e,Pl.qn4 _ fn k _ (qev s k q) hc Hf,if_neg Hc]
   ·have hk:k=s.size:=by omega
    rw[e,Pl.qtn _ fn k hk Hf,if_neg Hc,List.append_nil]
  by_cases ha:k=s.size\/∃q:k<s.size,Pl.among s[k] Pl.qah=true
  rotate_left
  ·have Hc:k<s.size:=by
    rcases Nat.lt_or_ge k s.size with q|q
    ·exact q
    ·exact absurd (.inl (by omega)) ha
   have hc:Pl.among s[k] Pl.qah=false:=Bool.eq_false_iff.2 (fun z=>ha (.inr ⟨Hc,z⟩));have he:(k:Int)<(s.size:Int):=by omega
   have hm:((k:Int)==(s.size:Int))=false:=by rw[beq_eq_false_iff_ne];omega
   have HN:Hid (WdAt w.heap.size w wr s (.slice ao acc.length cap) acc fn (k+1)):=
    ⟨H.out.own,H.out.below,by omega,by omega,fun h2=>(H.out.eq Hi).trans (by rw[Pl.qz2 _ fn k _ (qev s k Hc) hc Hf]),fun h2=>by omega⟩
   clear H HP hf ha;go_wp2_with (go_at_call 80;refine(qdx s[k] _ Pl.qah _ rfl (by decide)).mono ?_;rintro e w' ⟨rfl,rfl⟩;rw[hc])
   go_roundw
   case rel=>exact⟨k+1,fn,acc,by omega,by go_num,rfl,HN⟩
   case measure=>simp[intOf];omega
  have He:=(show Hid (qgf w.heap.size wr (.slice ao acc.length cap) acc)from H.out.own);have hg:=(show Hid (Below w.heap.size w wr)from H.out.below);clear H;by_cases hq:k=s.size
  ·subst hq
   have hm:((s.size:Int)==(s.size:Int))=true:=by rw[beq_iff_eq]
   by_cases Hc:fn<s.size
   ·have he:(s.size:Int) > (fn:Int):=by omega
    go_wp2_with (first|(at_builtin;refine wpList_append_own _ rfl _ _ 35 rfl w.heap.size 9 i0 (.string ⟨#[]⟩) 1 16 Tryz.underlying35 hi Hk hl Hl rfl (by decide) _ _ _ rfl (World.ownsRow.alloc He.out _) ⟨wr.heap.size,0,none⟩ 1 1 [.string (s.extract fn s.size)] rfl rfl (qc5 _ _ _) (by intro u hu;simp at hu;subst hu;rfl) (by unfold maxLen;omega) (by omega) (by simp;omega) ?_))
    ·intro v' w1 Ha Hb _
     have Hg:Below w.heap.size w w1:=qir (Below.alloc hg.out hz _) (World.ownsRow.alloc He.out _) Hb (by simp;omega);have HW:=hd (HP.out v' w1 Hc ha Ha Hg);clear HP hf ha Ha Hg Hb;go_wp2
     go_roundw
     case rel=>exact⟨s.size+1,s.size+1,_,by omega,by go_num,by go_num,HW⟩
     case measure=>simp[intOf]
   ·have he:¬(s.size:Int) > (fn:Int):=by omega
    have HW:=hd (hf.out wr Hc ha rfl);clear HP hf ha;go_wp2_with fail
    go_roundw
    case rel=>exact⟨s.size+1,s.size+1,_,by omega,by go_num,by go_num,HW⟩
    case measure=>simp[intOf]
  ·obtain⟨Hn,hc⟩:=ha.resolve_left hq
   have Hm:(k:Int)<(s.size:Int):=by omega
   have hm:((k:Int)==(s.size:Int))=false:=by rw[beq_eq_false_iff_ne];omega
   by_cases Hc:fn<k
   ·have he:(k:Int) > (fn:Int):=by omega
    go_wp2_with (first|(go_at_call 80;refine(qdx s[k] _ Pl.qah _ rfl (by decide)).mono ?_;rintro e w' ⟨rfl,rfl⟩;rw[hc])|(at_builtin;refine wpList_append_own _ rfl _ _ 35 rfl w.heap.size 9 i0 (.string ⟨#[]⟩) 1 16 Tryz.underlying35 hi Hk hl Hl rfl (by decide) _ _ _ rfl (World.ownsRow.alloc He.out _) ⟨wr.heap.size,0,none⟩ 1 1 [.string (s.extract fn k)] rfl rfl (qc5 _ _ _) (by intro u hu;simp at hu;subst hu;rfl) (by unfold maxLen;omega) (by omega) (by simp;omega) ?_))
    ·intro v' w1 Ha Hb _
     have Hg:Below w.heap.size w w1:=qir (Below.alloc hg.out hz _) (World.ownsRow.alloc He.out _) Hb (by simp;omega);have HW:=hd (HP.out v' w1 Hc ha Ha Hg);clear HP hf ha Ha Hg Hb;go_wp2
     go_roundw
     case rel=>exact⟨k+1,k+1,_,by omega,by go_num,by go_num,HW⟩
     case measure=>simp[intOf];omega
   ·have he:¬(k:Int) > (fn:Int):=by omega
    have HW:=hd (hf.out wr Hc ha rfl);clear HP hf ha;go_wp2_with (go_at_call 80;refine(qdx s[k] _ Pl.qah _ rfl (by decide)).mono ?_;rintro e w' ⟨rfl,rfl⟩;rw[hc])
    go_roundw
    case rel=>exact⟨k+1,k+1,_,by omega,by go_num,by go_num,HW⟩
    case measure=>simp[intOf];omega
namespace Pl
def qug(l:List UInt8):List (List UInt8):=if l=[46]then[]else Go.Lib.split l [46]
theorem q0j{l:List UInt8}(h:(46:UInt8)∉l):Go.Lib.split l [46]=[l]:=by
 unfold Go.Lib.split;rw[Go.Lib.count_one,List.count_eq_zero.2 h];rfl
theorem q0k{a:List UInt8}(r:List UInt8)(h:(46:UInt8)∉a):Go.Lib.split (a++46::r) [46]=a::Go.Lib.split r [46]:=by
 have hi:Go.Lib.index (a++46::r) [46]=(a.length:Int):=by
  refine Go.Lib.index_first (by simp) ?_ ?_
  ·unfold Go.Lib.occAt;rw[List.drop_left];simp[List.isPrefixOf]
  ·intro j hj
   unfold Go.Lib.occAt;rw[List.drop_append_of_le_length (by omega),List.drop_eq_getElem_cons hj,Bool.eq_false_iff];intro q;simp only[List.cons_append,List.isPrefixOf,Bool.and_true,beq_iff_eq]at q;exact h (q▸List.getElem_mem hj)
 unfold Go.Lib.split;rw[Go.Lib.count_one,Go.Lib.count_one,List.count_append,List.count_eq_zero.2 h,List.count_cons_self,Nat.zero_add]
 conv=>lhs;unfold Go.Lib.splitK
 rw[hi,if_neg (by rw[beq_iff_eq];omega)];have e2:((a.length:Nat):Int).toNat=a.length:=by omega
 rw[e2,Nat.add_zero,List.take_left,show a.length+[(46:UInt8)].length=(a++[46]).length by simp,show a++46::r=(a++[46])++r by simp,List.drop_left]
theorem qzu(l:List UInt8)(f k:Nat)(hf:f<=k):l.drop f=cur l f k++l.drop k:=by
 unfold cur;have:=(List.take_append_drop (k - f) (l.drop f)).symm
 rwa [List.drop_drop,show f+(k - f)=k by omega]at this
theorem qmz(l:List UInt8)(f k:Nat)(hf:f<=k)(hn:(46:UInt8)∉cur l f k)(h:l[k]?=some 46):Go.Lib.split (l.drop f) [46]=cur l f k::Go.Lib.split (l.drop (k+1)) [46]:=by
 obtain⟨h1,h2⟩:=List.getElem?_eq_some_iff.1 h;rw[qzu l f k hf,List.drop_eq_getElem_cons h1,h2];exact q0k _ hn
theorem qmy(l:List UInt8)(f k:Nat)(hf:f<=k)(hn:(46:UInt8)∉cur l f k)(h:k=l.length):Go.Lib.split (l.drop f) [46]=[cur l f k]:=by
 rw[qzu l f k hf,h,List.drop_length,List.append_nil,<-h];exact q0j hn
end Pl
structure NmAt(B:Nat)(w wr:World)(s:ByteArray)(v:Value)(acc:List (List UInt8))(f k:Nat):Prop where
 own:qgf B wr v acc
 below:Below B w wr
 fk:f<=k
 len:acc.length<=k
 al:acc.all Pl.qa6=true
 no:(46:UInt8)∉Pl.cur s.data.toList f k
 eq:k<=s.size->Go.Lib.split s.data.toList [46]=acc++Go.Lib.split (s.data.toList.drop f) [46]
 fin:s.size<k->Go.Lib.split s.data.toList [46]=acc
theorem qjy(s:ByteArray)(w:World)(hs:s.size<=1000000) :
  Calls Tryz.prog 120 #[.string s] w fun e w'=>(∃v,e=.returned (.tuple #[v,.bool (Pl.isNm s.data.toList)])/\∃L,qgf w.heap.size w' v L/\(Pl.isNm s.data.toList=true->L=Pl.qug s.data.toList))/\Below w.heap.size w w':=by
 obtain⟨i0,hi,hl,Hl,hm⟩:=info_parts qux;by_cases ha:s.toList==[46]
 ·have HD:Hid (Pl.isNm s.data.toList=true/\Pl.qug s.data.toList=[]):=by
   rw[ByteArray.toList_eq,beq_iff_eq]at ha;exact⟨by unfold Pl.isNm;rw[ha];rfl,by unfold Pl.qug;rw[if_pos ha]⟩
  go_enter Tryz.func120,Tryz.ntmps120
  go_wp2
  go_ret2
  exact⟨⟨_,by rw[HD.out.1];rfl,[],World.ownsRow_nil _ _ _ _,fun _=>HD.out.2.symm⟩,Below.refl _ _⟩
 have ha:=Bool.eq_false_iff.2 ha;have HD:Hid (s.data.toList≠[46]):=by
  intro e;rw[ByteArray.toList_eq,e]at ha;cases ha
 go_enter Tryz.func120,Tryz.ntmps120
 go_wp2_with fail
 clear ha;go_loopw [4,5,6,7] (fun v f i _ wr=>∃(k fn:Nat) (acc:List (List UInt8)),k<=s.size+1/\i=.int .i64 k/\f=.int .i64 fn/\Hid (NmAt w.heap.size w wr s v acc fn k)) (fun _ _ i _ _=>s.size+1 - (intOf i).toNat)
 case atStart=>exact⟨0,0,[],Nat.zero_le _,rfl,rfl,⟨World.ownsRow_nil _ _ _ _,Below.refl _ _,Nat.le_refl _,Nat.le_refl _,rfl,by rw[Pl.qpk];exact List.not_mem_nil,fun _=>rfl,fun h=>absurd h (Nat.not_lt_zero _)⟩⟩
 case round=>
  obtain⟨k,fn,acc,hk,rfl,rfl,H⟩:=hrel;have hz:=H.out.below.size;have hf:=H.out.fk;have ho:=H.out.len;obtain⟨ao,cap,rfl⟩:=H.out.own.slice;by_cases Hg:k<=s.size
  rotate_left
  ·have Hi:¬(k:Int)<=(s.size:Int):=by omega
   have HE:Hid (Pl.isNm s.data.toList=decide ((acc.length:Int)<=4)/\acc=Pl.qug s.data.toList):=by
    have e:=H.out.fin (by omega);refine⟨?_,?_⟩
    ·rw[qst _ HD.out,e,H.out.al,Bool.and_true,Bool.eq_iff_iff,decide_eq_true_iff,decide_eq_true_iff];omega
    ·unfold Pl.qug;rw[if_neg HD.out,e]
   go_wp2_with fail
   go_ret2
   exact⟨⟨_,by rw[HE.out.1];rfl,acc,H.out.own,fun _=>HE.out.2⟩,H.out.below⟩
  have Hi:(k:Int)<=(s.size:Int):=by omega
  have HX:Hid (Pl.cur s.data.toList fn k=(s.extract fn k).data.toList):=by show _=_;rw[qck];rfl
  have hg:Hid ((s.extract fn k).size<=1000000):=by
   show _<=_;rw[qck,qbz,List.length_take,List.length_drop];have:s.data.toList.length=s.size:=rfl;omega
  have HP:Hid (∀(v':Value) (w1:World),(k=s.size\/∃q:k<s.size,s[k]=46)->Pl.qa6 (s.extract fn k).data.toList=true->w1.ownsRow w.heap.size 9 1 v' (acc.length+1) (qki acc++[.string (s.extract fn k)])->Below w.heap.size w w1->NmAt w.heap.size w w1 s v' (acc++[Pl.cur s.data.toList fn k]) (k+1) (k+1)):=by
   intro v' w1 hc Hc hj hb;have e:=H.out.eq Hg;refine⟨?_,hb,Nat.le_refl _,by rw[List.length_append];simp only[List.length_cons,List.length_nil];omega,?_,by rw[Pl.qpk];exact List.not_mem_nil,fun h2=>?_,fun h2=>?_⟩
   ·show w1.ownsRow _ _ _ _ _ _
    rw[qmx,List.length_append];unfold Pl.cur;rw[<-qck];exact hj
   ·rw[List.all_append,H.out.al,HX.out]
    show(true && (Pl.qa6 (s.extract fn k).data.toList && true))=true;rw[Hc];rfl
   ·rcases hc with hc | ⟨q,hc⟩
    ·omega
    ·rw[e,Pl.qmz _ fn k hf H.out.no (by rw[qev s k q,hc]),List.append_assoc];rfl
   ·have hk:k=s.size:=by omega
    rw[e,Pl.qmy _ fn k hf H.out.no hk]
  have HF:Hid ((k=s.size\/∃q:k<s.size,s[k]=46)->Pl.qa6 (s.extract fn k).data.toList=false->Pl.isNm s.data.toList=false):=by
   intro hc Hc;have e:=H.out.eq Hg;have Hm:Pl.cur s.data.toList fn k∈Go.Lib.split s.data.toList [46]:=by
    rw[e];refine List.mem_append_right _ ?_;rcases hc with hc|⟨q,hc⟩
    ·rw[Pl.qmy _ fn k hf H.out.no hc];exact List.mem_cons_self
    ·rw[Pl.qmz _ fn k hf H.out.no (by rw[qev s k q,hc])];exact List.mem_cons_self
   rw[qst _ HD.out,Bool.eq_false_iff];intro q;rw[Bool.and_eq_true]at q;have:=List.all_eq_true.1 q.2 _ Hm;rw[HX.out,Hc]at this;cases this
  have he:=(show Hid (qgf w.heap.size wr (.slice ao acc.length cap) acc)from H.out.own);have He:=(show Hid (Below w.heap.size w wr)from H.out.below);by_cases hq:k=s.size
  ·subst hq
   have hn:((s.size:Int)==(s.size:Int))=true:=by rw[beq_iff_eq]
   cases Hc:Pl.qa6 (s.extract fn s.size).data.toList
   ·have HV:=hd (HF.out (.inl rfl) Hc)
    clear H HP HF HX;go_wp2_with (go_at_call 52;refine(qfz _ _ hg.out).mono ?_;rintro e w' ⟨rfl,rfl⟩;rw[Hc])
    go_ret2
    exact⟨⟨_,by rw[HV.out];rfl,[],World.ownsRow_nil _ _ _ _,fun q=>by rw[HV.out]at q;cases q⟩,He.out⟩
   ·clear H HF HX
    go_wp2_with (first|(go_at_call 52;refine(qfz _ _ hg.out).mono ?_;rintro e w' ⟨rfl,rfl⟩;rw[Hc])|(at_builtin;refine wpList_append_own _ rfl _ _ 35 rfl w.heap.size 9 i0 (.string ⟨#[]⟩) 1 16 Tryz.underlying35 hi hl Hl hm rfl (by decide) _ _ _ rfl (World.ownsRow.alloc he.out _) ⟨wr.heap.size,0,none⟩ 1 1 [.string (s.extract fn s.size)] rfl rfl (qc5 _ _ _) (by intro u hu;simp at hu;subst hu;rfl) (by unfold maxLen;omega) (by omega) (by simp;omega) ?_))
    ·intro v' w1 Ha Hb _
     have Hf:Below w.heap.size w w1:=qir (Below.alloc He.out hz _) (World.ownsRow.alloc he.out _) Hb (by simp;omega);have HW:=hd (HP.out v' w1 (.inl trivial) Hc Ha Hf);clear HP Ha Hf Hb Hc;go_wp2
     go_roundw
     case rel=>exact⟨s.size+1,s.size+1,_,by omega,by go_num,by go_num,HW⟩
     case measure=>simp[intOf]
  ·have Hj:k<s.size:=by omega
   have Hn:(k:Int)<(s.size:Int):=by omega
   have hn:((k:Int)==(s.size:Int))=false:=by rw[beq_eq_false_iff_ne];omega
   by_cases hc:s[k]=46
   ·have Hk:((s[k].toNat:Int)==46)=true:=by rw[hc];rfl
    cases Hc:Pl.qa6 (s.extract fn k).data.toList
    ·have HV:=hd (HF.out (.inr ⟨Hj,hc⟩) Hc)
     clear H HP HF HX hc;go_wp2_with (go_at_call 52;refine(qfz _ _ hg.out).mono ?_;rintro e w' ⟨rfl,rfl⟩;rw[Hc])
     go_ret2
     exact⟨⟨_,by rw[HV.out];rfl,[],World.ownsRow_nil _ _ _ _,fun q=>by rw[HV.out]at q;cases q⟩,He.out⟩
    ·have HP:=hd (fun v' w1=>HP.out v' w1 (.inr ⟨Hj,hc⟩) Hc)
     clear H HF HX hc;go_wp2_with (first|(go_at_call 52;refine(qfz _ _ hg.out).mono ?_;rintro e w' ⟨rfl,rfl⟩;rw[Hc])|(at_builtin;refine wpList_append_own _ rfl _ _ 35 rfl w.heap.size 9 i0 (.string ⟨#[]⟩) 1 16 Tryz.underlying35 hi hl Hl hm rfl (by decide) _ _ _ rfl (World.ownsRow.alloc he.out _) ⟨wr.heap.size,0,none⟩ 1 1 [.string (s.extract fn k)] rfl rfl (qc5 _ _ _) (by intro u hu;simp at hu;subst hu;rfl) (by unfold maxLen;omega) (by omega) (by simp;omega) ?_))
     ·intro v' w1 Ha Hb _
      have Hf:Below w.heap.size w w1:=qir (Below.alloc He.out hz _) (World.ownsRow.alloc he.out _) Hb (by simp;omega);have HW:=hd (HP.out v' w1 Ha Hf);clear HP Ha Hf Hb Hc;go_wp2
      go_roundw
      case rel=>exact⟨k+1,k+1,_,by omega,by go_num,by go_num,HW⟩
      case measure=>simp[intOf];omega
   ·have Hk:((s[k].toNat:Int)==46)=false:=by
     have:=Pl.qh5 s[k] 46 (by decide);rw[beq_eq_false_iff_ne.2 (show s[k]≠UInt8.ofNat 46 from hc)]at this;exact this
    have HN:Hid (NmAt w.heap.size w wr s (.slice ao acc.length cap) acc fn (k+1)):=
     ⟨H.out.own,H.out.below,by omega,by omega,H.out.al,by
      rw[Pl.qzw _ fn k _ hf (qev s k Hj)];intro q;rcases List.mem_append.1 q with q|q
      ·exact H.out.no q
      ·exact hc (List.mem_singleton.1 q).symm,fun _=>H.out.eq Hg,fun h2=>by omega⟩
    clear H HP HF HX hc;go_wp2_with fail
    go_roundw
    case rel=>exact⟨k+1,fn,acc,by omega,by go_num,rfl,HN⟩
    case measure=>simp[intOf];omega
namespace Pl
theorem qzn(l:List UInt8):(qds l [61] 0=-1/\among 61 l=false)\/(0<=qds l [61] 0/\among 61 l=true):=by
 by_cases h:among 61 l=true
 ·right
  refine⟨?_,h⟩;unfold qds;rw[List.drop_zero];rcases Go.Lib.index_spec l [61]with⟨_,q⟩|⟨i,q,_⟩
  ·obtain⟨i,hi⟩:=List.getElem?_of_mem (qg8.1 h)
   obtain⟨h1,h2⟩:=List.getElem?_eq_some_iff.1 hi;have:=q i (by omega);unfold Go.Lib.occAt at this;rw[List.drop_eq_getElem_cons h1,h2]at this;simp[List.isPrefixOf]at this
  ·rw[q,if_neg (by omega)];omega
 ·left
  have h:=Bool.eq_false_iff.2 h;refine⟨qu4 l [61] 0 (Nat.zero_le _) (fun j _ hj=>?_),h⟩;unfold Go.Lib.occAt;rw[Bool.eq_false_iff];intro q;have hj:j<l.length:=by simp only[List.length_cons,List.length_nil]at hj;omega
  rw[List.drop_eq_getElem_cons hj]at q;simp only[List.isPrefixOf,Bool.and_true,beq_iff_eq]at q;rw[qg8.2 (q▸List.getElem_mem hj)]at h;cases h
theorem q0w(c:ByteArray)(h:c.size<2\/∃q:0<c.size,c[c.size - 1]≠61):qdc c.data.toList=⟨8,4,[],[],[]⟩:=by
 unfold qdc;refine if_pos ?_;have hl:c.data.toList.length=c.size:=rfl;rw[Bool.eq_false_iff];intro q;unfold Go.Lib.hasSuffix at q;have q:=List.isSuffixOf_iff_suffix.1 q;obtain⟨t,ht⟩:=q;have ha:=congrArg List.length ht;rw[List.length_append,List.length_drop]at ha;simp only[List.length_cons,List.length_nil]at ha;rcases h with h|⟨h0,h⟩
 ·omega
 ·refine h ?_
  have e:(c.data.toList.drop 1)[c.size - 2]?=some 61:=by
   rw[<-ht,List.getElem?_append_right (by omega),show c.size - 2 - t.length=0 by omega];rfl
  rw[List.getElem?_drop,show 1+(c.size - 2)=c.size - 1 by omega,qev c _ (by omega)]at e;exact Option.some.inj e
def dlOf:List (List UInt8)->Tg
 |[a,b]=>if qd7 a=true/\qd7 b=true then⟨8,0,[],a,b⟩else⟨8,4,[],[],[]⟩
 |_=>⟨8,4,[],[],[]⟩
theorem qw2(c:ByteArray)(h2:2<=c.size)(h:c[c.size - 1]=61):qdc c.data.toList=dlOf (qfq (c.extract 1 (c.size - 1)).data.toList):=by
 have hl:c.data.toList.length=c.size:=rfl;have e:c.data.toList.drop 1=(c.extract 1 (c.size - 1)).data.toList++[61]:=by
  rw[qck];show _=(c.data.toList.drop 1).take (c.size - 1 - 1)++[61];have h1:(c.data.toList.drop 1).length=c.size - 1:=by rw[List.length_drop,hl]
  have:=(List.take_append_drop (c.size - 2) (c.data.toList.drop 1)).symm;rw[show c.size - 1 - 1=c.size - 2 by omega];refine this.trans ?_
  congr 1
  rw[List.drop_drop,show 1+(c.size - 2)=c.size - 1 by omega,List.drop_eq_getElem_cons (by omega:c.size - 1<c.data.toList.length)];have:c.data.toList[c.size - 1]'(by omega)=61:=h;rw[this,show c.size - 1+1=c.data.toList.length by omega,List.drop_length]
 unfold qdc;have hs:Go.Lib.hasSuffix (c.data.toList.drop 1) [61]=true:=by
  unfold Go.Lib.hasSuffix;rw[e];exact List.isSuffixOf_iff_suffix.2 (List.suffix_append _ _)
 have ht:Go.Lib.trimSuffix (c.data.toList.drop 1) [61]=(c.extract 1 (c.size - 1)).data.toList:=by
  unfold Go.Lib.trimSuffix;rw[hs,if_pos rfl,e,List.length_append];simp
 rw[if_neg (by rw[hs];simp),ht];generalize qfq (c.extract 1 (c.size - 1)).data.toList=L
 match L with
 |[]=>rfl
 |[_]=>rfl
 |[_,_]=>rfl
 |_::_::_::_=>rfl
theorem qh8:∀(l c:List UInt8),∀x∈qbn c l,x.length<=c.length+l.length
 |[],c,x,hx=>by
   unfold qbn at hx;split at hx
   ·cases hx
   ·rw[List.mem_singleton.1 hx];exact Nat.le_add_right _ _
 |b::l,c,x,hx=>by
   unfold qbn at hx;rw[List.length_cons];split at hx
   ·split at hx
    ·have:=qh8 l [] x hx
     simp only[List.length_nil]at this;omega
    ·rcases List.mem_cons.1 hx with rfl | hx
     ·omega
     ·have:=qh8 l [] x hx
      simp only[List.length_nil]at this;omega
   ·have:=qh8 l (c++[b]) x hx
    rw[List.length_append]at this;simp only[List.length_cons,List.length_nil]at this;omega
end Pl
theorem qx3(s:ByteArray)(w:World)(hs:s.size<=1000000) :
  Calls Tryz.prog 81 #[.string s,.string ⟨#[61]⟩,.int .i64 0] w fun e w'=>e=.returned (.int .i64 (Pl.qds s.data.toList [61] 0))/\w=w':=
 qrc s ⟨#[61]⟩ 0 w hs (by decide) (Nat.zero_le _)
theorem qgf.cell{B:Nat}{w:World}{L:List (List UInt8)}{g cap:Nat}(h:qgf B w (.slice (some ⟨g,0,none⟩) L.length cap) L)(j:Nat)(l:List UInt8)(hj:L[j]?=some l):w.cell? ⟨g,j,none⟩=some (.string ⟨l.toArray⟩):=by
 have h1:=(List.getElem?_eq_some_iff.1 hj).1;rw[World.ownsRow.cellAt h j (by rw[Nat.mul_one];exact h1)];unfold qki;rw[List.getElem?_map,hj];rfl
def q7b(r:Pl.Tg):Value:=.tuple #[.string ⟨r.op.toArray⟩,.string ⟨r.cl.toArray⟩,.bool (decide (r.slip=0))]
theorem q1q(s:ByteArray)(w:World)(hs:s.size<=1000000) :
  Calls Tryz.prog 87 #[.string s] w fun e w'=>e=.returned (q7b (Pl.qdc s.data.toList))/\Below w.heap.size w w':=by
 by_cases hb:s.size<2\/∃q:0<s.size,s[s.size - 1]≠61
 ·rw[Pl.q0w s hb]
  by_cases h2:s.size<2
  ·have He:(s.size:Int)<2:=by omega
   clear hb;go_enter Tryz.func87,Tryz.ntmps87
   go_wp2
   (try simp only[Exit.inBlock,Exit.then]);refine bodyPost_ret (results_tmp3 rfl _ _ _) rfl ?_
   exact⟨rfl,Below.refl _ _⟩
  ·obtain⟨h0,hc⟩:=hb.resolve_left h2
   have He:¬(s.size:Int)<2:=by omega
   have h3:(0:Int)<=(s.size:Int) - 1:=by omega
   have hq:((s[s.size - 1].toNat:Int)==61)=false:=by
    have:=Pl.qh5 s[s.size - 1] 61 (by decide);rw[beq_eq_false_iff_ne.2 (show s[s.size - 1]≠UInt8.ofNat 61 from hc)]at this;exact this
   have hR:=hd hc;clear hb;go_enter Tryz.func87,Tryz.ntmps87
   go_wp2
   (try simp only[Exit.inBlock,Exit.then]);refine bodyPost_ret (results_tmp3 rfl _ _ _) rfl ?_
   exact⟨rfl,Below.refl _ _⟩
 have h2:2<=s.size:=by
  rcases Nat.lt_or_ge s.size 2 with q|q
  ·exact absurd (.inl q) hb
  ·exact q
 have hi:s.size - 1<s.size:=Nat.sub_lt (Nat.lt_of_lt_of_le (by decide) h2) (by decide);have hc:s[s.size - 1]'hi=61:=by
  by_cases q:s[s.size - 1]'hi=61
  ·exact q
  ·exact absurd (.inr ⟨by omega,q⟩) hb
 clear hb;have HR:=hd (Pl.qw2 s h2 hc);have He:¬(s.size:Int)<2:=by omega
 have h3:(0:Int)<=(s.size:Int) - 1:=by omega
 have h4:(1:Int)<=(s.size:Int) - 1:=by omega
 have hq:(((s[s.size - 1]'hi).toNat:Int)==61)=true:=by rw[hc];rfl
 have hX:(s.extract 1 (s.size - 1)).size<=s.size:=by
  rw[qck,qbz,List.length_take,List.length_drop];have:s.data.toList.length=s.size:=rfl;omega
 have hW:=q19 (s.extract 1 (s.size - 1)) w (by omega);have Hb:Hid (∀x∈Pl.qfq (s.extract 1 (s.size - 1)).data.toList,x.length<=1000000):=fun x hx=>by
  have:=Pl.qh8 _ [] x hx;have e:(s.extract 1 (s.size - 1)).data.toList.length=(s.extract 1 (s.size - 1)).size:=rfl;rw[e]at this;simp only[List.length_nil]at this;omega
 generalize Pl.qfq (s.extract 1 (s.size - 1)).data.toList=L at HR hW Hb;have HW:=hd hW;clear hW hX;rw[HR.out];clear HR;have HC:=hd hc;clear hc;by_cases hf:L.length=2
 rotate_left
 ·have HD:Hid (Pl.dlOf L=⟨8,4,[],[],[]⟩):=by
   show _=_
   match L,hf with
   |[],_=>rfl
   |[_],_=>rfl
   |[_,_],h=>exact absurd rfl h
   |_::_::_::_,_=>rfl
  have Hg:((L.length:Int)==2)=false:=by rw[beq_eq_false_iff_ne];omega
  go_enter Tryz.func87,Tryz.ntmps87
  go_wp2_with (go_at_call 121;refine Calls.mono HW.out ?_;rintro e w1 ⟨⟨v,rfl,hO⟩,hB⟩;obtain⟨ao,cap,rfl⟩:=hO.slice)
  (try simp only[Exit.inBlock,Exit.then]);refine bodyPost_ret (results_tmp3 rfl _ _ _) rfl ?_
  exact⟨by rw[HD.out];rfl,hB⟩
 match L,hf with
 |[a,b],_=>
 have ha:=Hb.out a (by simp);have hb:=Hb.out b (by simp);clear Hb;obtain⟨A,hA⟩:∃A:ByteArray,A=⟨a.toArray⟩:=⟨_,rfl⟩;obtain⟨D,hD⟩:∃A:ByteArray,A=⟨b.toArray⟩:=⟨_,rfl⟩;have Hi:A.size=a.length:=by rw[hA];exact qbz a
 have hj:D.size=b.length:=by rw[hD];exact qbz b
 have zA:A.size<=1000000:=by omega
 have zD:D.size<=1000000:=by omega
 have Hc:A.data.toList=a:=by rw[hA]
 have he:D.data.toList=b:=by rw[hD]
 have Ha:Hid (∀w1 g cap,qgf w.heap.size w1 (.slice (some ⟨g,0,none⟩) 2 cap) [a,b]->w1.cell? ⟨g,0,none⟩=some (.string A)/\w1.cell? ⟨g,1,none⟩=some (.string D)):=by
  intro w1 g cap h;rw[hA,hD];exact⟨h.cell 0 a rfl,h.cell 1 b rfl⟩
 have HV:Hid (q7b (Pl.dlOf [a,b])=if(a.length<=3/\Pl.among 61 a=false)/\b.length<=3/\Pl.among 61 b=false then .tuple #[.string A,.string D,.bool true]else .tuple #[.string ⟨#[]⟩,.string ⟨#[]⟩,.bool false]):=by
  show _=_;rw[hA,hD];unfold Pl.dlOf Pl.qd7;simp only[Bool.and_eq_true,decide_eq_true_eq,Bool.not_eq_true'];split<;>rfl
 have oa:=Pl.qzn A.data.toList;have ob:=Pl.qzn D.data.toList;rw[Hc]at oa;rw[he]at ob;rw[<-Hc]at oa;rw[<-he]at ob;have Hf:Pl.among 61 A.data.toList=Pl.among 61 a:=by rw[Hc]
 have hg:Pl.among 61 D.data.toList=Pl.among 61 b:=by rw[he]
 rw[Hf]at oa;rw[hg]at ob;clear hA hD Hc he ha hb Hf hg;rw[HV.out];by_cases a3:a.length<=3
 rotate_left
 ·have q1:(A.size:Int) > 3:=by omega
  rw[if_neg (fun q=>a3 q.1.1)];clear HV oa ob;go_enter Tryz.func87,Tryz.ntmps87
  go_wp2_with (go_at_call 121;refine Calls.mono HW.out ?_;rintro e w1 ⟨⟨v,rfl,hO⟩,hB⟩;obtain⟨g,cap,rfl,_,_⟩:=qaj hO (Nat.zero_lt_succ _);obtain⟨c0,c1⟩:=Ha.out w1 g cap hO)
  (try simp only[Exit.inBlock,Exit.then]);refine bodyPost_ret (results_tmp3 rfl _ _ _) rfl ?_
  exact⟨rfl,hB⟩
 have q1:¬(A.size:Int) > 3:=by omega
 by_cases b3:b.length<=3
 rotate_left
 ·have q2:(D.size:Int) > 3:=by omega
  rw[if_neg (fun q=>b3 q.2.1)];clear HV oa ob;go_enter Tryz.func87,Tryz.ntmps87
  go_wp2_with (go_at_call 121;refine Calls.mono HW.out ?_;rintro e w1 ⟨⟨v,rfl,hO⟩,hB⟩;obtain⟨g,cap,rfl,_,_⟩:=qaj hO (Nat.zero_lt_succ _);obtain⟨c0,c1⟩:=Ha.out w1 g cap hO)
  (try simp only[Exit.inBlock,Exit.then]);refine bodyPost_ret (results_tmp3 rfl _ _ _) rfl ?_
  exact⟨rfl,hB⟩
 have q2:¬(D.size:Int) > 3:=by omega
 rcases oa with⟨q3,oa⟩|⟨q3,oa⟩
 rotate_left
 ·rw[if_neg (fun q=>by rw[oa]at q;exact absurd q.1.2 (by simp))]
  have q3':Pl.qds A.data.toList [61] 0≥0:=q3;clear q3;clear HV ob;go_enter Tryz.func87,Tryz.ntmps87
  go_wp2_with (first|(go_at_call 121;refine Calls.mono HW.out ?_;rintro e w1 ⟨⟨v,rfl,hO⟩,hB⟩;obtain⟨g,cap,rfl,_,_⟩:=qaj hO (Nat.zero_lt_succ _);obtain⟨c0,c1⟩:=Ha.out w1 g cap hO)|(go_at_call 81;refine(qx3 _ _ (by first|exact zA|exact zD)).mono ?_;rintro e w2 ⟨rfl,rfl⟩))
  (try simp only[Exit.inBlock,Exit.then]);refine bodyPost_ret (results_tmp3 rfl _ _ _) rfl ?_
  exact⟨rfl,hB⟩
 have q3':¬Pl.qds A.data.toList [61] 0≥0:=by omega
 clear q3;rcases ob with⟨q4,ob⟩|⟨q4,ob⟩
 rotate_left
 ·rw[if_neg (fun q=>by rw[ob]at q;exact absurd q.2.2 (by simp))]
  have q4':Pl.qds D.data.toList [61] 0≥0:=q4;clear q4;clear HV;go_enter Tryz.func87,Tryz.ntmps87
  go_wp2_with (first|(go_at_call 121;refine Calls.mono HW.out ?_;rintro e w1 ⟨⟨v,rfl,hO⟩,hB⟩;obtain⟨g,cap,rfl,_,_⟩:=qaj hO (Nat.zero_lt_succ _);obtain⟨c0,c1⟩:=Ha.out w1 g cap hO)|(go_at_call 81;refine(qx3 _ _ (by first|exact zA|exact zD)).mono ?_;rintro e w2 ⟨rfl,rfl⟩))
  (try simp only[Exit.inBlock,Exit.then]);refine bodyPost_ret (results_tmp3 rfl _ _ _) rfl ?_
  exact⟨rfl,hB⟩
 rw[if_pos ⟨⟨a3,oa⟩,b3,ob⟩];have q4':¬Pl.qds D.data.toList [61] 0≥0:=by omega
 clear q4;clear HV;go_enter Tryz.func87,Tryz.ntmps87
 go_wp2_with (first|(go_at_call 121;refine Calls.mono HW.out ?_;rintro e w1 ⟨⟨v,rfl,hO⟩,hB⟩;obtain⟨g,cap,rfl,_,_⟩:=qaj hO (Nat.zero_lt_succ _);obtain⟨c0,c1⟩:=Ha.out w1 g cap hO)|(go_at_call 81;refine(qx3 _ _ (by first|exact zA|exact zD)).mono ?_;rintro e w2 ⟨rfl,rfl⟩))
 go_region
 all_goals
  go_wp2
  (try simp only[Exit.inBlock,Exit.then]);refine bodyPost_ret (results_tmp3 rfl _ _ _) rfl ?_
  exact⟨rfl,by first|exact hB|exact hB.drew|exact Below.drewN hB _⟩
end Go.Proofs.YtfkhljmiehdgmaaGreatDoor
