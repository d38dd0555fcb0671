/-
  Steps of the proof.
-/
import Derived.Test.YtfkhljmiehdgmaaGreatDoorCuBH
import Derived.Lib.CutLaws
set_option maxRecDepth 100000
set_option maxHeartbeats 40000000
namespace Go.Proofs.YtfkhljmiehdgmaaGreatDoor
open Go.RowKit Go.Proofs.Tryz Pl
theorem qyd(t:zU)(a:Nat):((⟨t.toArray⟩:zT).extract 0 a).data.toList=t.take a:=by
 rw[qg6];simp
theorem qoo(t:zU)(z:Nat):((⟨t.toArray⟩:zT).extract z t.length).data.toList=t.drop z:=by
 rw[qg6];show(t.drop z).take (t.length - z)=t.drop z;exact yp (by simp)
theorem zfs(l:zU):l=[]\/∃A b,l=A++[b]:=by
 rcases List.eq_nil_or_concat l with h|⟨A,b,h⟩
 ·exact .inl h
 ·exact .inr ⟨A,b,by simpa using h⟩
theorem q3o(l:zU):(⟨l.toArray⟩:zT).toList.isEmpty=l.isEmpty:=by rw[Lib.toList_data]
theorem zcx(A:zU)(b:UInt8)(hh:A.length<(⟨(A++[b]).toArray⟩:zT).size):(⟨(A++[b]).toArray⟩:zT)[A.length]'hh=b:=by
 show(A++[b]).toArray[A.length]'_=b;simp
theorem q9j(b:UInt8)(L:zU)(hh:0<(⟨(b::L).toArray⟩:zT).size):(⟨(b::L).toArray⟩:zT)[0]'hh=b:=rfl
theorem qb1(l:zU):(⟨l.toArray⟩:zT).size=l.length:=by simp[ByteArray.size]
theorem zce(w:World)(B g:Nat)(t:zU)(c:Ct)(vp vo:Value)(h:CtAt w B g t c vp vo)(a z:Nat)(ha:a<=t.length)(hz:z<=t.length)(ht:t.length<=2000) :
  zC 151 #[zP g,zI a,zI z] w (zR (.tuple #[zI (qel t a z).1,zI (qel t a z).2]) w):=by
 have hT:∀w,zC 204 #[.string ((⟨t.toArray⟩:zT).extract 0 a),.string ⟨#[9,12,13,32]⟩] w (zR (bs (Lib.trimRightS (t.take a) qdq)) w):=fun w=>by
  have:=qr2 ((⟨t.toArray⟩:zT).extract 0 a) w (by rw[qg6,qb1];simp;omega);rw[qyd]at this;exact this
 have hL:∀w,zC 196 #[.string ((⟨t.toArray⟩:zT).extract z t.length),.string ⟨#[9,12,13,32]⟩] w (zR (bs (Lib.trimLeftS (t.drop z) qdq)) w):=fun w=>by
  have:=que ((⟨t.toArray⟩:zT).extract z t.length) w;rw[qoo]at this;exact this
 have Ha:=qmd (t.take a) qdq;have hb:=qiq (t.drop z) qdq;unfold qel;rw[yP]at Ha;rw[yM]at hb;generalize Lib.trimRightS (t.take a) qdq=A at *;generalize Lib.trimLeftS (t.drop z) qdq=Y at *;have hP:∀w,zC 205 #[zV Y,.string ⟨#[10]⟩] w (zQ (zV (Lib.trimPrefix Y [10])) w):=fun w=>by
  refine(strings_TrimPrefix ⟨Y.toArray⟩ ⟨#[10]⟩ w).mono ?_;rintro e w' ⟨rfl,rfl⟩;exact⟨rfl,rfl⟩
 have he:=q2l Y [10];have Hb:(⟨(Lib.trimPrefix Y [10]).toArray⟩:zT).size<=t.length:=by rw[qb1];omega
 have fin:(t.length:Int) - ((⟨(Lib.trimPrefix Y [10]).toArray⟩:zT).size:Int)=((t.length - (Lib.trimPrefix Y [10]).length:Nat):Int):=by rw[qb1];omega
 unfold bs at hT hL;have hm:=zfn w B g t c vp vo h a z ha hz ht _ _ hT hL _ hP Hb;rw[fin]at hm;have hc:∀bz,Y.head?.any (·!= 10)=!bz->((⟨Y.toArray⟩:zT).toList.isEmpty=true/\bz=true\/(⟨Y.toArray⟩:zT).toList.isEmpty=false/\∃_:0<(⟨Y.toArray⟩:zT).size,((⟨Y.toArray⟩:zT)[0]==10)=bz):=fun bz q=>by
  rw[q3o];rcases Y with _|⟨y,Y⟩
  ·cases bz<;>simp at q |-
  ·exact .inr ⟨rfl,by rw[qb1];simp,by rw[q9j];cases bz<;>simpa [bne]using q⟩
 have Hc:∀bx,A.getLast?.any (·!= 10)=!bx->((⟨A.toArray⟩:zT).toList.isEmpty=true/\bx=true\/(⟨A.toArray⟩:zT).toList.isEmpty=false/\∃n,(⟨A.toArray⟩:zT).size=n+1/\n<=100000/\∀hh:n<(⟨A.toArray⟩:zT).size,((⟨A.toArray⟩:zT)[n]'hh==10)=bx):=fun bx q=>by
  rw[q3o];rcases zfs A with rfl|⟨A,b,rfl⟩
  ·cases bx<;>simp at q |-
  ·exact .inr ⟨by simp,A.length,by rw[qb1];simp,by simp at Ha;omega,fun hh=>by rw[zcx];cases bx<;>simpa [bne]using q⟩
 have:=hm (!A.getLast?.any (·!= 10)) (!Y.head?.any (·!= 10)) (Hc _ (by simp)) (hc _ (by simp));rw[qb1]at this;cases hA:A.getLast?.any (·!= 10)<;>cases hY:Y.head?.any (·!= 10)<;>simp only[hA,hY]at this |-<;>exact this
namespace Pl
def lnF(s:zU):Nat->Nat
 |0=>0
 |k+1=>if s[k]?=some 10 then k+1 else lnF s k
def lnT(s:zU)(z:Nat):Nat:=z+((s.drop z).takeWhile (·!= 10)).length
def emp(s:zU)(a b:Nat):Bool:=((s.drop a).take (b - a)).all (fun x=>among x qag)
theorem q22(s:zU):∀k,lnF s k<=k
 |0=>yg _
 |k+1=>by
   unfold lnF;split
   ·exact yg _
   ·exact Nat.le_succ_of_le (q22 s k)
theorem zd7(s:zU)(z:Nat)(h:z<=s.length):z<=lnT s z/\lnT s z<=s.length:=by
 unfold lnT;have:=(List.takeWhile_sublist (p:=fun x:UInt8=>x != 10) (l:=s.drop z)).length_le;rw[yM]at this;omega
theorem q21(s:zU)(z:Nat)(h:s[z]?=some 10\/s.length<=z):lnT s z=z:=by
 unfold lnT;rcases h with h|h
 ·obtain⟨h1,h2⟩:=yb.1 h
  rw[yo h1,h2];rfl
 ·rw[List.drop_of_length_le h];rfl
theorem zcd(s:zU)(z:Nat)(b:UInt8)(h:s[z]?=some b)(hb:b≠10):lnT s z=lnT s (z+1):=by
 obtain⟨h1,h2⟩:=yb.1 h;unfold lnT;rw[yo h1,h2,List.takeWhile_cons_of_pos (by simpa using hb),yK];omega
theorem zf7(s:zU)(a b:Nat)(h:b<=a):emp s a b=true:=by
 unfold emp;rw[show b - a=0 by omega];rfl
theorem zda(s:zU)(a b:Nat)(x:UInt8)(h:a<b)(hx:s[a]?=some x):emp s a b=(among x qag && emp s (a+1) b):=by
 obtain⟨h1,h2⟩:=yb.1 hx;unfold emp;rw[yo h1,h2,show b - a=(b - (a+1))+1 by omega];rfl
theorem qk1(b:UInt8)(l:zU):among b l=l.contains b:=by
 rw[xi,qho,List.contains_iff_mem]
theorem zgx(X:zT)(h:0<X.size)(hb:among X[0] qag=true):Go.Lib.trimLeftS X.data.toList qag=Go.Lib.trimLeftS (X.extract 1 X.size).data.toList qag:=by
 rw[extract_drop];have h0:0<X.data.toList.length:=h;have e:X.data.toList=X[0]::X.data.toList.drop 1:=by
  have:=yo h0
  rwa [List.drop_zero]at this
 show _=Go.Lib.trimLeftS (X.data.toList.drop 1) qag;unfold Go.Lib.trimLeftS;rw[yE (List.dropWhile _) e,xx (by rw[<-qk1];exact hb)]
theorem zhy(X:zT)(h:∀q:0<X.size,among X[0] qag=false):Go.Lib.trimLeftS X.data.toList qag=X.data.toList:=by
 unfold Go.Lib.trimLeftS;by_cases q:0<X.data.toList.length
 ·have e:X.data.toList=X[0]::X.data.toList.drop 1:=by
   have:=yo q
   rwa [List.drop_zero]at this
  rw[e,xw (by rw[<-qk1,h q];simp)]
 ·rw[yC (by omega:X.data.toList.length=0)];rfl
theorem qnr(X:zT)(h:0<X.size):X.data.toList=X.data.toList.take (X.size - 1)++[X[X.size - 1]]:=by
 have:=qdn X (X.size - 1) (by omega);rw[Nat.sub_add_cancel h,qeo X _ (yg _)]at this;exact this
theorem zgv(X:zT)(h:0<X.size)(hb:among X[X.size - 1] qag=true):Go.Lib.trimRightS X.data.toList qag=Go.Lib.trimRightS (X.extract 0 (X.size - 1)).data.toList qag:=by
 rw[extract_take];show _=Go.Lib.trimRightS (X.data.toList.take (X.size - 1)) qag;unfold Go.Lib.trimRightS;rw[yE List.reverse (qnr X h),List.reverse_append,List.reverse_cons,List.reverse_nil,xD,List.singleton_append,xx (by rw[<-qk1];exact hb)]
theorem zgw(X:zT)(h:∀q:0<X.size,among X[X.size - 1] qag=false):Go.Lib.trimRightS X.data.toList qag=X.data.toList:=by
 unfold Go.Lib.trimRightS;by_cases q:0<X.size
 ·rw[yE List.reverse (qnr X q),List.reverse_append,List.reverse_cons,List.reverse_nil,xD,List.singleton_append,xw (by rw[<-qk1,h q];simp),
   List.reverse_cons,List.reverse_reverse]
  exact(qnr X q).symm
 ·rw[yC (show X.data.toList.length=0 from by have:X.data.toList.length=X.size:=rfl;omega)];rfl
theorem quf(x:UInt8)(t cs:zU):Go.Lib.trimRightS (x::t) cs=if Go.Lib.trimRightS t cs=[]then(if cs.contains x=true then[]else[x])else x::Go.Lib.trimRightS t cs:=by
 unfold Go.Lib.trimRightS;rw[List.reverse_cons,List.dropWhile_append];cases h:t.reverse.dropWhile (cs.contains ·)with
 |nil=>
   show(List.dropWhile (cs.contains ·) [x]).reverse=(if cs.contains x=true then[]else[x]);by_cases q:cs.contains x=true
   ·rw[if_pos q,xx q];rfl
   ·rw[if_neg q,xw q];rfl
 |cons a l=>simp
theorem qpx(cs:zU):∀l:zU,Go.Lib.trimRightS (Go.Lib.trimLeftS l cs) cs=Go.Lib.trimS l cs
 |[]=>rfl
 |x::t=>by
   have ih:=qpx cs t;unfold Go.Lib.trimS at ih |-;rw[quf];by_cases q:cs.contains x=true
   ·have e:Go.Lib.trimLeftS (x::t) cs=Go.Lib.trimLeftS t cs:=xx q
    rw[e,ih,if_pos q];by_cases z:Go.Lib.trimRightS t cs=[]
    ·rw[if_pos z,z]
    ·rw[if_neg z]
     exact(xx q).symm
   ·have e:Go.Lib.trimLeftS (x::t) cs=x::t:=xw q
    rw[e,quf,if_neg q];split
    ·exact(xw q).symm
    ·exact(xw q).symm
end Pl
theorem q1z(s:zT)(a b:Nat)(w:World)(hs:s.size<=1000000)(hb:b<=s.size)(Ha:a<=b) :
  zC 86 #[.string s,zI a,zI b] w (zQ (.bool (Pl.emp s.data.toList a b)) w):=by
 go_enter func86,ntmps86
 go_wp2
 go_loop [7] (fun i=>∃k:Nat,k<=b/\i=zI k/\Hid (Pl.emp s.data.toList a b=Pl.emp s.data.toList k b)) (fun i=>b - (intOf i).toNat)
 case atStart=>exact⟨a,Ha,rfl,by show _=_;rfl⟩
 case round=>
  obtain⟨k,hk,rfl,HN⟩:=hrel;by_cases Hb:k<b
  ·have ha:(k:Int)<(b:Int):=by omega
   have Hc:k<s.size:=by omega
   have he:(k:Int)<(s.size:Int):=by omega
   have HE:=zH (Pl.zda s.data.toList k b s[k] Hb (qe5 s k Hc));by_cases hc:Pl.among s[k] Pl.qag=true
   ·go_wp2_with (go_at_call 80;refine cm (qed s[k] _ Pl.qag _ rfl (by decide)) ?_;rw[hc])
    go_round
    case rel=>exact⟨k+1,by omega,by go_num,by show _=_;rw[HN.out,HE.out,hc];rfl⟩
    case measure=>simp[intOf];omega
   ·have hc:=ye.2 hc
    go_wp2_with (go_at_call 80;refine cm (qed s[k] _ Pl.qag _ rfl (by decide)) ?_;rw[hc])
    go_ret
    exact⟨by rw[HN.out,HE.out,hc];rfl,rfl⟩
  ·have ha:decide ((k:Int)<(b:Int))=false:=by rw[yO];omega
   have HF:=zH (HN.out.trans (Pl.zf7 _ _ _ (by omega)));go_wp2
   go_ret
   exact⟨by rw[HF.out];rfl,rfl⟩
theorem qxj(s:zT)(a:Nat)(w:World)(hs:s.size<=1000000)(ha:a<=s.size) :
  zC 84 #[.string s,zI a] w (zQ (zI (Pl.lnF s.data.toList a)) w):=by
 go_enter func84,ntmps84
 go_wp2
 go_loop [1] (fun i=>∃k:Nat,k<=a/\i=zI k/\Hid (Pl.lnF s.data.toList a=Pl.lnF s.data.toList k)) (fun i=>(intOf i).toNat)
 case atStart=>exact⟨a,yg _,rfl,by show _=_;rfl⟩
 case round=>
  obtain⟨k,hk,rfl,HN⟩:=hrel
  match k,hk with
  |0,_=>
    go_wp2
    go_ret
    exact⟨by rw[HN.out];rfl,rfl⟩
  |k+1,hk=>
    have Ha:k<s.size:=by omega
    have e1:(((k+1:Nat):Int) - 1)=(k:Int):=by omega
    have e0:(((k+1:Nat):Int) > 0):=by omega
    have hb:(k:Int)<(s.size:Int):=by omega
    have HE:Hid (Pl.lnF s.data.toList (k+1)=if s[k]=10 then k+1 else Pl.lnF s.data.toList k):=by
     show _=_
     conv=>lhs;unfold Pl.lnF
     rw[qe5 s k Ha];simp only[Option.some.injEq]
    by_cases hc:s[k]=10
    ·have hq:((s[k].toNat:Int)==10)=true:=by rw[hc];rfl
     go_wp2
     go_ret
     exact⟨by rw[HN.out,HE.out,if_pos hc];rfl,rfl⟩
    ·have hq:((s[k].toNat:Int)==10)=false:=by
      have:=qil s[k] 10 (by decide);rw[yf.2 (show s[k]≠UInt8.ofNat 10 from hc)]at this;exact this
     go_wp2
     go_round
     case rel=>exact⟨k,by omega,by go_num,by show _=_;rw[HN.out,HE.out,if_neg hc]⟩
     case measure=>simp[intOf]
theorem q5r(s:zT)(a:Nat)(w:World)(hs:s.size<=1000000)(ha:a<=s.size) :
  zC 85 #[.string s,zI a] w (zQ (zI (Pl.lnT s.data.toList a)) w):=by
 go_enter func85,ntmps85
 go_wp2
 go_loop [1] (fun i=>∃k:Nat,k<=s.size/\i=zI k/\Hid (Pl.lnT s.data.toList a=Pl.lnT s.data.toList k)) (fun i=>s.size - (intOf i).toNat)
 case atStart=>exact⟨a,ha,rfl,by show _=_;rfl⟩
 case round=>
  obtain⟨k,hk,rfl,HN⟩:=hrel;by_cases hb:k<s.size
  ·have Ha:(k:Int)<(s.size:Int):=by omega
   by_cases hc:s[k]=10
   ·have HF:=zH (HN.out.trans (Pl.q21 _ k (.inl (by rw[qe5 s k hb,hc]))))
    have hq:((s[k].toNat:Int)==10)=true:=by rw[hc];rfl
    go_wp2
    go_ret
    exact⟨by rw[HF.out];rfl,rfl⟩
   ·have HF:=zH (HN.out.trans (Pl.zcd _ k _ (qe5 s k hb) hc))
    have hq:((s[k].toNat:Int)==10)=false:=by
     have:=qil s[k] 10 (by decide);rw[yf.2 (show s[k]≠UInt8.ofNat 10 from hc)]at this;exact this
    go_wp2
    go_round
    case rel=>exact⟨k+1,by omega,by go_num,HF⟩
    case measure=>simp[intOf];omega
  ·have Ha:decide ((k:Int)<(s.size:Int))=false:=by rw[yO];omega
   have HF:=zH (HN.out.trans (Pl.q21 _ k (.inr (by show s.size<=k;omega))));go_wp2
   go_ret
   exact⟨by rw[HF.out];rfl,rfl⟩
theorem qpw(s:zT)(w:World)(hs:s.size<=1000000) :
  zC 82 #[.string s] w (zQ (zV (Go.Lib.trimS s.data.toList Pl.qag)) w):=by
 go_enter func82,ntmps82
 go_wp2
 go_loop [0] (fun v=>∃X:zT,X.size<=s.size/\v=.string X/\Hid (Go.Lib.trimLeftS s.data.toList Pl.qag=Go.Lib.trimLeftS X.data.toList Pl.qag)) (fun v=>match v with|.string X=>X.size|_=>0)
 case atStart=>exact⟨s,yg _,rfl,by show _=_;rfl⟩
 case round=>
  obtain⟨X,hX,rfl,HN⟩:=hrel;by_cases hp:0<X.size/\∃q:0<X.size,Pl.among X[0] Pl.qag=true
  ·obtain⟨Ha,_,hc⟩:=hp
   have ha:(X.size:Int) > 0:=by omega
   have HF:=zH (HN.out.trans (Pl.zgx X Ha hc));have hz:(X.extract 1 X.size).size<X.size:=by rw[Pl.extract_drop,qb1,yM];show X.size - 1<X.size;omega
   clear HN;go_wp2_with (go_at_call 80;refine cm (qed X[0] _ Pl.qag _ rfl (by decide)) ?_;rw[hc])
   go_round
   case rel=>exact⟨_,by omega,rfl,HF⟩
   case measure=>exact hz
  ·have hF:Go.Lib.trimLeftS X.data.toList Pl.qag=X.data.toList:=Pl.zhy X (fun q=>by
    rw[ye];exact fun z=>hp ⟨q,q,z⟩)
   have HF:=zH (HN.out.trans hF);clear HN hF;have HK:Hid (∀Y:zT,Y.size<=X.size->Go.Lib.trimRightS Y.data.toList Pl.qag=Y.data.toList->Go.Lib.trimRightS X.data.toList Pl.qag=Go.Lib.trimRightS Y.data.toList Pl.qag->Y=⟨(Go.Lib.trimS s.data.toList Pl.qag).toArray⟩):=by
    intro Y _ h1 h2;rw[<-Pl.qpx,HF.out,h2,h1]
   clear HF;by_cases Ha:0<X.size
   ·have ha:(X.size:Int) > 0:=by omega
    have hc:Pl.among X[0] Pl.qag=false:=ye.2 (fun z=>hp ⟨Ha,Ha,z⟩);clear hp;go_wp2_with (go_at_call 80;refine cm (qed X[0] _ Pl.qag _ rfl (by decide)) ?_;rw[hc])
    clear hc;go_loop [0] (fun v=>∃Y:zT,Y.size<=X.size/\v=.string Y/\Hid (Go.Lib.trimRightS X.data.toList Pl.qag=Go.Lib.trimRightS Y.data.toList Pl.qag)) (fun v=>match v with|.string X=>X.size|_=>0)
    case atStart=>exact⟨X,yg _,rfl,by show _=_;rfl⟩
    case round=>
     obtain⟨Y,hY,rfl,HN⟩:=hrel;by_cases hp:0<Y.size/\∃q:0<Y.size,Pl.among Y[Y.size - 1] Pl.qag=true
     ·obtain⟨Ha,_,hc⟩:=hp
      have ha:(Y.size:Int) > 0:=by omega
      have hb:(0:Int)<=(Y.size:Int) - 1:=by omega
      have HF:=zH (HN.out.trans (Pl.zgv Y Ha hc));have hz:(Y.extract 0 (Y.size - 1)).size<Y.size:=by rw[Pl.extract_take,qb1,yP];omega
      clear HN;go_wp2_with (go_at_call 80;refine cm (qed Y[Y.size - 1] _ Pl.qag _ rfl (by decide)) ?_;rw[hc])
      go_round
      case rel=>exact⟨_,by omega,rfl,HF⟩
      case measure=>exact hz
     ·have HF:=(show Hid _ from HK.out Y hY (Pl.zgw Y (fun q=>by
       rw[ye];exact fun z=>hp ⟨q,q,z⟩)) HN.out)
      clear HN HK;by_cases Ha:0<Y.size
      ·have ha:(Y.size:Int) > 0:=by omega
       have hb:(0:Int)<=(Y.size:Int) - 1:=by omega
       have hc:Pl.among Y[Y.size - 1] Pl.qag=false:=ye.2 (fun z=>hp ⟨Ha,Ha,z⟩);clear hp;go_wp2_with (go_at_call 80;refine cm (qed Y[Y.size - 1] _ Pl.qag _ rfl (by decide)) ?_;rw[hc])
       go_ret
       exact⟨qcl HF.out,rfl⟩
      ·have ha:decide ((Y.size:Int) > 0)=false:=by rw[yO];omega
       clear hp;go_wp2
       go_ret
       exact⟨qcl HF.out,rfl⟩
   ·have ha:decide ((X.size:Int) > 0)=false:=by rw[yO];omega
    clear hp;go_wp2
    go_loop [0] (fun v=>∃Y:zT,Y.size<=X.size/\v=.string Y/\Hid (Go.Lib.trimRightS X.data.toList Pl.qag=Go.Lib.trimRightS Y.data.toList Pl.qag)) (fun v=>match v with|.string X=>X.size|_=>0)
    case atStart=>exact⟨X,yg _,rfl,by show _=_;rfl⟩
    case round=>
     obtain⟨Y,hY,rfl,HN⟩:=hrel;have HF:=zH (HK.out Y hY (Pl.zgw Y (fun q=>by omega)) HN.out);clear HN HK;have ha:decide ((Y.size:Int) > 0)=false:=by rw[yO];omega
     go_wp2
     go_ret
     exact⟨qcl HF.out,rfl⟩
theorem qxw:(prog.info? 9).map (fun i=>(i.zero,i.size,i.bytes))=some (some (zS),1,16):=by kernel_rfl
def qll(L:List zU):List Value:=L.map fun l=>zV l
theorem qod(L:List zU)(l:zU):qll (L++[l])=qll L++[zV l]:=by unfold qll;simp
def qgk(B:Nat)(w:World)(v:Value)(L:List zU):Prop:=w.ownsRow B 9 1 v L.length (qll L)
theorem qgk.slice{B:Nat}{w:World}{v:Value}{L:List zU}(h:qgk B w v L):∃ao cap,v=.slice ao L.length cap:=qaq h
theorem qco(s:zT)(a z:Nat):s.extract a z=⟨((s.data.toList.drop a).take (z - a)).toArray⟩:=qg6 s.data.toList a z
namespace Pl
def cur(l:zU)(f k:Nat):zU:=(l.drop f).take (k - f)
theorem qri(l:zU)(k:Nat):cur l k k=[]:=by unfold cur;rw[xA];rfl
theorem q3t(l:zU)(f k:Nat)(b:UInt8)(hf:f<=k)(h:l[k]?=some b):cur l f (k+1)=cur l f k++[b]:=by
 obtain⟨h1,h2⟩:=yb.1 h;unfold cur;rw[show k+1 - f=(k - f)+1 by omega,yB (by rw[yM];omega),List.getElem_drop]
 congr 2
 rw[<-h2];congr 1;omega
theorem zee(l:zU)(f k:Nat)(hf:f<k)(hk:k<=l.length):cur l f k≠[]:=by
 intro e;have:=yE List.length e;unfold cur at this;rw[yP,yM]at this;simp at this;omega
theorem qpl(l:zU)(f k:Nat)(b:UInt8)(h:l[k]?=some b)(hb:among b qag=true)(hf:f<=k):qbo (cur l f k) (l.drop k)=if f<k then cur l f k::qbo (cur l (k+1) (k+1)) (l.drop (k+1))else qbo (cur l (k+1) (k+1)) (l.drop (k+1)):=by
 obtain⟨h1,h2⟩:=yb.1 h;rw[yo h1,h2,qri]
 conv=>lhs;unfold qbo
 rw[if_pos hb];by_cases q:f<k
 ·rw[if_pos q,if_neg (zee l f k q (by omega))]
 ·rw[if_neg q,show f=k by omega,qri,if_pos rfl]
theorem q31(l:zU)(f k:Nat)(b:UInt8)(h:l[k]?=some b)(hb:among b qag=false)(hf:f<=k):qbo (cur l f k) (l.drop k)=qbo (cur l f (k+1)) (l.drop (k+1)):=by
 obtain⟨h1,h2⟩:=yb.1 h;rw[yo h1,h2,q3t l f k b hf h]
 conv=>lhs;unfold qbo
 rw[if_neg (by rw[hb];simp)]
theorem qv9(l:zU)(f k:Nat)(hk:k=l.length)(hf:f<=k):qbo (cur l f k) (l.drop k)=if f<k then[cur l f k]else[]:=by
 rw[hk,List.drop_length];unfold qbo;by_cases q:f<k
 ·rw[<-hk,if_pos q,if_neg (zee l f k q (by omega))]
 ·rw[<-hk,if_neg q,show f=k by omega,qri,if_pos rfl]
end Pl
structure WdAt(B:Nat)(w wr:World)(s:zT)(v:Value)(acc:List zU)(f k:Nat):Prop where
 own:qgk B wr v acc
 below:Below B w wr
 fk:f<=k
 len:acc.length<=k
 eq:k<=s.size->qfy s.data.toList=acc++Pl.qbo (Pl.cur s.data.toList f k) (s.data.toList.drop k)
 fin:s.size<k->qfy s.data.toList=acc
theorem q6x(s:zT)(w:World)(hs:s.size<=1000000) :
  zC 121 #[.string s] w fun e w'=>(∃v,e=.returned v/\qgk w.heap.size w' v (qfy s.data.toList))/\zW w w':=by
 obtain⟨i0,hi,Hk,hl,Hl⟩:=info_parts qxw;go_enter func121,ntmps121
 go_wp2
 go_loopw [3,4,5] (fun v f i wr=>∃(k fn:Nat) (acc:List zU),k<=s.size+1/\i=zI k/\f=zI fn/\Hid (WdAt w.heap.size w wr s v acc fn k)) (fun _ _ i _=>s.size+1 - (intOf i).toNat)
 case atStart=>exact⟨0,0,[],yH _,rfl,rfl,⟨World.ownsRow_nil _ _ _ _,xM _ _,yg _,yg _,fun _=>rfl,fun h=>absurd h (xb _)⟩⟩
 case round=>
  obtain⟨k,fn,acc,hk,rfl,rfl,H⟩:=hrel;have hz:=H.out.below.size;have Hf:=H.out.fk;have hn:=H.out.len;obtain⟨ao,cap,rfl⟩:=H.out.own.slice;by_cases Hi:k<=s.size
  rotate_left
  ·have hj:¬(k:Int)<=(s.size:Int):=by omega
   go_wp2
   go_ret
   exact⟨⟨_,rfl,by rw[H.out.fin (by omega)];exact H.out.own⟩,H.out.below⟩
  have hj:(k:Int)<=(s.size:Int):=by omega
  have HP:Hid (∀(v':Value) (w1:World),fn<k->(k=s.size\/∃q:k<s.size,Pl.among s[k] Pl.qag=true)->w1.ownsRow w.heap.size 9 1 v' (acc.length+1) (qll acc++[.string (s.extract fn k)])->zW w w1->WdAt w.heap.size w w1 s v' (acc++[Pl.cur s.data.toList fn k]) (k+1) (k+1)):=by
   intro v' w1 Hc hc Hj hb;have e:=H.out.eq Hi;refine⟨?_,hb,yg _,by rw[yJ];simp only[yK,yQ];omega,fun h2=>?_,fun h2=>?_⟩
   ·show w1.ownsRow _ _ _ _ _ _
    rw[qod,yJ];unfold Pl.cur;rw[<-qco];exact Hj
   ·rcases hc with hc | ⟨q,hc⟩
    ·omega
    ·rw[e,Pl.qpl _ fn k _ (qe5 s k q) hc Hf,if_pos Hc,yq];rfl
   ·have hk:k=s.size:=by omega
    rw[e,Pl.qv9 _ fn k hk Hf,if_pos Hc]
  have hf:Hid (∀w1,¬fn<k->(k=s.size\/∃q:k<s.size,Pl.among s[k] Pl.qag=true)->w1=wr->WdAt w.heap.size w w1 s (.slice ao acc.length cap) acc (k+1) (k+1)):=by
   rintro w1 Hc hc rfl;have e:=H.out.eq Hi;refine⟨H.out.own,H.out.below,yg _,by omega,fun h2=>?_,fun h2=>?_⟩
   ·rcases hc with hc | ⟨q,hc⟩
    ·omega
    ·rw[e,Pl.qpl _ fn k _ (qe5 s k q) hc Hf,if_neg Hc]
   ·have hk:k=s.size:=by omega
    rw[e,Pl.qv9 _ fn k hk Hf,if_neg Hc,yw]
  by_cases ha:k=s.size\/∃q:k<s.size,Pl.among s[k] Pl.qag=true
  rotate_left
  ·have Hc:k<s.size:=by
    rcases Nat.lt_or_ge k s.size with q|q
    ·exact q
    ·exact absurd (.inl (by omega)) ha
   have hc:Pl.among s[k] Pl.qag=false:=ye.2 (fun z=>ha (.inr ⟨Hc,z⟩));have he:(k:Int)<(s.size:Int):=by omega
   have hm:((k:Int)==(s.size:Int))=false:=by rw[yf];omega
   have HN:Hid (WdAt w.heap.size w wr s (.slice ao acc.length cap) acc fn (k+1)):=
    ⟨H.out.own,H.out.below,by omega,by omega,fun h2=>(H.out.eq Hi).trans (by rw[Pl.q31 _ fn k _ (qe5 s k Hc) hc Hf]),fun h2=>by omega⟩
   clear H HP hf ha;go_wp2_with (go_at_call 80;refine cm (qed s[k] _ Pl.qag _ rfl (by decide)) ?_;rw[hc])
   go_roundw
   case rel=>exact⟨k+1,fn,acc,by omega,by go_num,rfl,HN⟩
   case measure=>simp[intOf];omega
  have He:=(show Hid (qgk w.heap.size wr (.slice ao acc.length cap) acc)from H.out.own);have hg:=(show Hid (zW w wr)from H.out.below);clear H;by_cases hq:k=s.size
  ·subst hq
   have hm:((s.size:Int)==(s.size:Int))=true:=by rw[yF]
   by_cases Hc:fn<s.size
   ·have he:(s.size:Int) > (fn:Int):=by omega
    go_wp2_with (first|(at_builtin;refine wpList_append_own _ rfl _ _ 35 rfl w.heap.size 9 i0 (zS) 1 16 underlying35 hi Hk hl Hl rfl (by decide) _ _ _ rfl (World.ownsRow.alloc He.out _) (zO wr.heap.size 0) 1 1 [.string (s.extract fn s.size)] rfl rfl (qcn _ _ _) (by intro u hu;simp at hu;subst hu;rfl) (by unfold maxLen;omega) (by omega) (by simp;omega) ?_))
    ·intro v' w1 Ha Hb _
     have Hg:zW w w1:=qi8 (Below.alloc hg.out hz _) (World.ownsRow.alloc He.out _) Hb (by simp;omega);have HW:=zH (HP.out v' w1 Hc ha Ha Hg);clear HP hf ha Ha Hg Hb;go_wp2
     go_roundw
     case rel=>exact⟨s.size+1,s.size+1,_,by omega,by go_num,by go_num,HW⟩
     case measure=>simp[intOf]
   ·have he:¬(s.size:Int) > (fn:Int):=by omega
    have HW:=zH (hf.out wr Hc ha rfl);clear HP hf ha;go_wp2
    go_roundw
    case rel=>exact⟨s.size+1,s.size+1,_,by omega,by go_num,by go_num,HW⟩
    case measure=>simp[intOf]
  ·obtain⟨Hn,hc⟩:=ha.resolve_left hq
   have Hm:(k:Int)<(s.size:Int):=by omega
   have hm:((k:Int)==(s.size:Int))=false:=by rw[yf];omega
   by_cases Hc:fn<k
   ·have he:(k:Int) > (fn:Int):=by omega
    go_wp2_with (first|(go_at_call 80;refine cm (qed s[k] _ Pl.qag _ rfl (by decide)) ?_;rw[hc])|(at_builtin;refine wpList_append_own _ rfl _ _ 35 rfl w.heap.size 9 i0 (zS) 1 16 underlying35 hi Hk hl Hl rfl (by decide) _ _ _ rfl (World.ownsRow.alloc He.out _) (zO wr.heap.size 0) 1 1 [.string (s.extract fn k)] rfl rfl (qcn _ _ _) (by intro u hu;simp at hu;subst hu;rfl) (by unfold maxLen;omega) (by omega) (by simp;omega) ?_))
    ·intro v' w1 Ha Hb _
     have Hg:zW w w1:=qi8 (Below.alloc hg.out hz _) (World.ownsRow.alloc He.out _) Hb (by simp;omega);have HW:=zH (HP.out v' w1 Hc ha Ha Hg);clear HP hf ha Ha Hg Hb;go_wp2
     go_roundw
     case rel=>exact⟨k+1,k+1,_,by omega,by go_num,by go_num,HW⟩
     case measure=>simp[intOf];omega
   ·have he:¬(k:Int) > (fn:Int):=by omega
    have HW:=zH (hf.out wr Hc ha rfl);clear HP hf ha;go_wp2_with (go_at_call 80;refine cm (qed s[k] _ Pl.qag _ rfl (by decide)) ?_;rw[hc])
    go_roundw
    case rel=>exact⟨k+1,k+1,_,by omega,by go_num,by go_num,HW⟩
    case measure=>simp[intOf];omega
namespace Pl
def qw7(l:zU):List zU:=if l=[46]then[]else Go.Lib.split l [46]
theorem q4n{l:zU}(h:(46:UInt8)∉l):Go.Lib.split l [46]=[l]:=by
 unfold Go.Lib.split;rw[Go.Lib.count_one,List.count_eq_zero.2 h];rfl
theorem q4o{a:zU}(r:zU)(h:(46:UInt8)∉a):Go.Lib.split (a++46::r) [46]=a::Go.Lib.split r [46]:=by
 have hi:Go.Lib.index (a++46::r) [46]=(a.length:Int):=by
  refine Go.Lib.index_first (by simp) ?_ ?_
  ·unfold Go.Lib.occAt;rw[List.drop_left];simp[List.isPrefixOf]
  ·intro j hj
   unfold Go.Lib.occAt;rw[List.drop_append_of_le_length (by omega),yo hj,ye];intro q;simp only[xC,List.isPrefixOf,Bool.and_true,yF]at q;exact h (q▸List.getElem_mem hj)
 unfold Go.Lib.split;rw[Go.Lib.count_one,Go.Lib.count_one,List.count_append,List.count_eq_zero.2 h,List.count_cons_self,xg]
 conv=>lhs;unfold Go.Lib.splitK
 rw[hi,if_neg (by rw[yF];omega)];have e2:((a.length:Nat):Int).toNat=a.length:=by omega
 rw[e2,Nat.add_zero,List.take_left,show a.length+[(46:UInt8)].length=(a++[46]).length by simp,show a++46::r=(a++[46])++r by simp,List.drop_left]
theorem q3r(l:zU)(f k:Nat)(hf:f<=k):l.drop f=cur l f k++l.drop k:=by
 unfold cur;have:=(yu (k - f) (l.drop f)).symm
 rwa [yD,show f+(k - f)=k by omega]at this
theorem qof(l:zU)(f k:Nat)(hf:f<=k)(hn:(46:UInt8)∉cur l f k)(h:l[k]?=some 46):Go.Lib.split (l.drop f) [46]=cur l f k::Go.Lib.split (l.drop (k+1)) [46]:=by
 obtain⟨h1,h2⟩:=yb.1 h;rw[q3r l f k hf,yo h1,h2];exact q4o _ hn
theorem qoe(l:zU)(f k:Nat)(hf:f<=k)(hn:(46:UInt8)∉cur l f k)(h:k=l.length):Go.Lib.split (l.drop f) [46]=[cur l f k]:=by
 rw[q3r l f k hf,h,List.drop_length,yw,<-h];exact q4n hn
end Pl
structure NmAt(B:Nat)(w wr:World)(s:zT)(v:Value)(acc:List zU)(f k:Nat):Prop where
 own:qgk B wr v acc
 below:Below B w wr
 fk:f<=k
 len:acc.length<=k
 al:acc.all qa4=true
 no:(46:UInt8)∉Pl.cur s.data.toList f k
 eq:k<=s.size->Go.Lib.split s.data.toList [46]=acc++Go.Lib.split (s.data.toList.drop f) [46]
 fin:s.size<k->Go.Lib.split s.data.toList [46]=acc
theorem qkw(s:zT)(w:World)(hs:s.size<=1000000) :
  zC 120 #[.string s] w fun e w'=>(∃v,e=.returned (.tuple #[v,.bool (isNm s.data.toList)])/\∃L,qgk w.heap.size w' v L/\(isNm s.data.toList=true->L=Pl.qw7 s.data.toList))/\zW w w':=by
 obtain⟨i0,hi,hl,Hl,hm⟩:=info_parts qxw;by_cases ha:s.toList==[46]
 ·have HD:Hid (isNm s.data.toList=true/\Pl.qw7 s.data.toList=[]):=by
   rw[yW,yF]at ha;exact⟨by unfold isNm;rw[ha];rfl,by unfold Pl.qw7;rw[if_pos ha]⟩
  go_enter func120,ntmps120
  go_wp2
  go_ret2
  exact⟨⟨_,by rw[HD.out.1];rfl,[],World.ownsRow_nil _ _ _ _,fun _=>HD.out.2.symm⟩,xM _ _⟩
 have ha:=ye.2 ha;have HD:Hid (s.data.toList≠[46]):=by
  intro e;rw[yW,e]at ha;cases ha
 go_enter func120,ntmps120
 go_wp2
 clear ha;go_loopw [4,5,6,7] (fun v f i _ wr=>∃(k fn:Nat) (acc:List zU),k<=s.size+1/\i=zI k/\f=zI fn/\Hid (NmAt w.heap.size w wr s v acc fn k)) (fun _ _ i _ _=>s.size+1 - (intOf i).toNat)
 case atStart=>exact⟨0,0,[],yH _,rfl,rfl,⟨World.ownsRow_nil _ _ _ _,xM _ _,yg _,yg _,rfl,by rw[Pl.qri];exact List.not_mem_nil,fun _=>rfl,fun h=>absurd h (xb _)⟩⟩
 case round=>
  obtain⟨k,fn,acc,hk,rfl,rfl,H⟩:=hrel;have hz:=H.out.below.size;have hf:=H.out.fk;have ho:=H.out.len;obtain⟨ao,cap,rfl⟩:=H.out.own.slice;by_cases Hg:k<=s.size
  rotate_left
  ·have Hi:¬(k:Int)<=(s.size:Int):=by omega
   have HE:Hid (isNm s.data.toList=decide ((acc.length:Int)<=4)/\acc=Pl.qw7 s.data.toList):=by
    have e:=H.out.fin (by omega);refine⟨?_,?_⟩
    ·rw[qve _ HD.out,e,H.out.al,Bool.and_true,xi,decide_eq_true_iff,decide_eq_true_iff];omega
    ·unfold Pl.qw7;rw[if_neg HD.out,e]
   go_wp2
   go_ret2
   exact⟨⟨_,by rw[HE.out.1];rfl,acc,H.out.own,fun _=>HE.out.2⟩,H.out.below⟩
  have Hi:(k:Int)<=(s.size:Int):=by omega
  have HX:Hid (Pl.cur s.data.toList fn k=(s.extract fn k).data.toList):=by show _=_;rw[qco];rfl
  have hg:Hid ((s.extract fn k).size<=1000000):=by
   show _<=_;rw[qco,qb1,yP,yM];have:s.data.toList.length=s.size:=rfl;omega
  have HP:Hid (∀(v':Value) (w1:World),(k=s.size\/∃q:k<s.size,s[k]=46)->qa4 (s.extract fn k).data.toList=true->w1.ownsRow w.heap.size 9 1 v' (acc.length+1) (qll acc++[.string (s.extract fn k)])->zW w w1->NmAt w.heap.size w w1 s v' (acc++[Pl.cur s.data.toList fn k]) (k+1) (k+1)):=by
   intro v' w1 hc Hc hj hb;have e:=H.out.eq Hg;refine⟨?_,hb,yg _,by rw[yJ];simp only[yK,yQ];omega,?_,by rw[Pl.qri];exact List.not_mem_nil,fun h2=>?_,fun h2=>?_⟩
   ·show w1.ownsRow _ _ _ _ _ _
    rw[qod,yJ];unfold Pl.cur;rw[<-qco];exact hj
   ·rw[List.all_append,H.out.al,HX.out]
    show(true && (qa4 (s.extract fn k).data.toList && true))=true;rw[Hc];rfl
   ·rcases hc with hc | ⟨q,hc⟩
    ·omega
    ·rw[e,Pl.qof _ fn k hf H.out.no (by rw[qe5 s k q,hc]),yq];rfl
   ·have hk:k=s.size:=by omega
    rw[e,Pl.qoe _ fn k hf H.out.no hk]
  have HF:Hid ((k=s.size\/∃q:k<s.size,s[k]=46)->qa4 (s.extract fn k).data.toList=false->isNm s.data.toList=false):=by
   intro hc Hc;have e:=H.out.eq Hg;have Hm:Pl.cur s.data.toList fn k∈Go.Lib.split s.data.toList [46]:=by
    rw[e];refine List.mem_append_right _ ?_;rcases hc with hc|⟨q,hc⟩
    ·rw[Pl.qoe _ fn k hf H.out.no hc];exact xq
    ·rw[Pl.qof _ fn k hf H.out.no (by rw[qe5 s k q,hc])];exact xq
   rw[qve _ HD.out,ye];intro q;rw[yL]at q;have:=yX.1 q.2 _ Hm;rw[HX.out,Hc]at this;cases this
  have he:=(show Hid (qgk w.heap.size wr (.slice ao acc.length cap) acc)from H.out.own);have He:=(show Hid (zW w wr)from H.out.below);by_cases hq:k=s.size
  ·subst hq
   have hn:((s.size:Int)==(s.size:Int))=true:=by rw[yF]
   cases Hc:qa4 (s.extract fn s.size).data.toList
   ·have HV:=zH (HF.out (.inl rfl) Hc)
    clear H HP HF HX;go_wp2_with (go_at_call 52;refine cm (qf4 _ _ hg.out) ?_;rw[Hc])
    go_ret2
    exact⟨⟨_,by rw[HV.out];rfl,[],World.ownsRow_nil _ _ _ _,fun q=>by rw[HV.out]at q;cases q⟩,He.out⟩
   ·clear H HF HX
    go_wp2_with (first|(go_at_call 52;refine cm (qf4 _ _ hg.out) ?_;rw[Hc])|(at_builtin;refine wpList_append_own _ rfl _ _ 35 rfl w.heap.size 9 i0 (zS) 1 16 underlying35 hi hl Hl hm rfl (by decide) _ _ _ rfl (World.ownsRow.alloc he.out _) (zO wr.heap.size 0) 1 1 [.string (s.extract fn s.size)] rfl rfl (qcn _ _ _) (by intro u hu;simp at hu;subst hu;rfl) (by unfold maxLen;omega) (by omega) (by simp;omega) ?_))
    ·intro v' w1 Ha Hb _
     have Hf:zW w w1:=qi8 (Below.alloc He.out hz _) (World.ownsRow.alloc he.out _) Hb (by simp;omega);have HW:=zH (HP.out v' w1 (.inl trivial) Hc Ha Hf);clear HP Ha Hf Hb Hc;go_wp2
     go_roundw
     case rel=>exact⟨s.size+1,s.size+1,_,by omega,by go_num,by go_num,HW⟩
     case measure=>simp[intOf]
  ·have Hj:k<s.size:=by omega
   have Hn:(k:Int)<(s.size:Int):=by omega
   have hn:((k:Int)==(s.size:Int))=false:=by rw[yf];omega
   by_cases hc:s[k]=46
   ·have Hk:((s[k].toNat:Int)==46)=true:=by rw[hc];rfl
    cases Hc:qa4 (s.extract fn k).data.toList
    ·have HV:=zH (HF.out (.inr ⟨Hj,hc⟩) Hc)
     clear H HP HF HX hc;go_wp2_with (go_at_call 52;refine cm (qf4 _ _ hg.out) ?_;rw[Hc])
     go_ret2
     exact⟨⟨_,by rw[HV.out];rfl,[],World.ownsRow_nil _ _ _ _,fun q=>by rw[HV.out]at q;cases q⟩,He.out⟩
    ·have HP:=zH (fun v' w1=>HP.out v' w1 (.inr ⟨Hj,hc⟩) Hc)
     clear H HF HX hc;go_wp2_with (first|(go_at_call 52;refine cm (qf4 _ _ hg.out) ?_;rw[Hc])|(at_builtin;refine wpList_append_own _ rfl _ _ 35 rfl w.heap.size 9 i0 (zS) 1 16 underlying35 hi hl Hl hm rfl (by decide) _ _ _ rfl (World.ownsRow.alloc he.out _) (zO wr.heap.size 0) 1 1 [.string (s.extract fn k)] rfl rfl (qcn _ _ _) (by intro u hu;simp at hu;subst hu;rfl) (by unfold maxLen;omega) (by omega) (by simp;omega) ?_))
     ·intro v' w1 Ha Hb _
      have Hf:zW w w1:=qi8 (Below.alloc He.out hz _) (World.ownsRow.alloc he.out _) Hb (by simp;omega);have HW:=zH (HP.out v' w1 Ha Hf);clear HP Ha Hf Hb Hc;go_wp2
      go_roundw
      case rel=>exact⟨k+1,k+1,_,by omega,by go_num,by go_num,HW⟩
      case measure=>simp[intOf];omega
   ·have Hk:((s[k].toNat:Int)==46)=false:=by
     have:=qil s[k] 46 (by decide);rw[yf.2 (show s[k]≠UInt8.ofNat 46 from hc)]at this;exact this
    have HN:Hid (NmAt w.heap.size w wr s (.slice ao acc.length cap) acc fn (k+1)):=
     ⟨H.out.own,H.out.below,by omega,by omega,H.out.al,by
      rw[Pl.q3t _ fn k _ hf (qe5 s k Hj)];intro q;rcases yn.1 q with q|q
      ·exact H.out.no q
      ·exact hc (yv.1 q).symm,fun _=>H.out.eq Hg,fun h2=>by omega⟩
    clear H HP HF HX hc;go_wp2
    go_roundw
    case rel=>exact⟨k+1,fn,acc,by omega,by go_num,rfl,HN⟩
    case measure=>simp[intOf];omega
namespace Pl
theorem qyo(p:UInt8->Bool):∀l:zU,l.dropWhile p=[]↔∀b∈l,p b=true
 |[]=>⟨fun _ b hb=>(by cases hb),fun _=>rfl⟩
 |x::l=>by
   by_cases q:p x=true
   ·rw[xx q,qyo p l]
    exact⟨fun h b hb=>(xu.1 hb).elim (fun e=>e▸q) (h b),fun h b hb=>h b (yY _ hb)⟩
   ·rw[xw q]
    exact⟨fun h=>(by cases h),fun h=>absurd (h x xq) q⟩
theorem zd1(p:UInt8->Bool):∀l:zU,∀b∈l.takeWhile p,p b=true
 |[],b,hb=>by cases hb
 |x::l,b,hb=>by
   by_cases q:p x=true
   ·rw[List.takeWhile_cons_of_pos q]at hb
    rcases xu.1 hb with rfl|hb
    ·exact q
    ·exact zd1 p l b hb
   ·rw[List.takeWhile_cons_of_neg q]at hb;cases hb
theorem q7c(cs l m:zU):Go.Lib.trimRightS (l++m) cs=if Go.Lib.trimRightS m cs=[]then Go.Lib.trimRightS l cs else l++Go.Lib.trimRightS m cs:=by
 unfold Go.Lib.trimRightS;rw[List.reverse_append,List.dropWhile_append];cases h:m.reverse.dropWhile (cs.contains ·)with
 |nil=>simp
 |cons a t=>simp
theorem q7b(cs m:zU):Go.Lib.trimRightS m cs=[]↔∀b∈m,cs.contains b=true:=by
 unfold Go.Lib.trimRightS;rw[List.reverse_eq_nil_iff];constructor
 ·intro h b hb
  have:=(qyo _ _).1 h b (List.mem_reverse.2 hb);exact this
 ·intro h
  exact(qyo _ _).2 (fun b hb=>h b (List.mem_reverse.1 hb))
theorem za9(cs m:zU)(h:Go.Lib.trimRightS m cs≠[]):∃b∈m,cs.contains b=false/\(Go.Lib.trimRightS m cs).getLast?=some b:=by
 unfold Go.Lib.trimRightS at h |-;cases hd:m.reverse.dropWhile (cs.contains ·)with
 |nil=>rw[hd]at h;exact absurd rfl h
 |cons b t=>
   refine⟨b,?_,?_,by simp⟩
   ·have:b∈m.reverse.dropWhile (cs.contains ·):=by rw[hd];exact xq
    exact List.mem_reverse.1 ((List.dropWhile_sublist _).subset this)
   ·have:=List.head?_dropWhile_not (cs.contains ·) m.reverse
    rw[hd]at this;simpa using this
theorem zet(cs l m:zU)(h:∀b∈l,cs.contains b=true):Go.Lib.trimLeftS (l++m) cs=Go.Lib.trimLeftS m cs:=by
 unfold Go.Lib.trimLeftS;rw[List.dropWhile_append,(qyo _ _).2 h];rfl
theorem zba(cs l m:zU)(h:¬ ∀b∈l,cs.contains b=true):∃b∈l,(Go.Lib.trimLeftS (l++m) cs).head?=some b:=by
 unfold Go.Lib.trimLeftS;rw[List.dropWhile_append];cases hd:l.dropWhile (cs.contains ·)with
 |nil=>exact absurd ((qyo _ _).1 hd) h
 |cons b t=>
   refine⟨b,?_,by simp⟩;have:b∈l.dropWhile (cs.contains ·):=by rw[hd];exact xq
   exact(List.dropWhile_sublist _).subset this
theorem qxi(t:zU):∀a,a<=t.length->(∀b∈(t.drop (lnF t a)).take (a - lnF t a),b≠10)/\(lnF t a=0\/∃l,t.take (lnF t a)=l++[10])
 |0,_=>⟨fun b hb=>by simp[lnF]at hb,.inl rfl⟩
 |a+1,h=>by
   unfold lnF;split
   ·next q=>
    refine⟨fun b hb=>(by rw[xA]at hb;cases hb),.inr ⟨t.take a,?_⟩⟩;obtain⟨h1,h2⟩:=yb.1 q;rw[yB h1,h2]
   ·next q=>
    obtain⟨h1,h2⟩:=qxi t a (by omega);have ha:=q22 t a;refine⟨fun b hb=>?_,h2⟩;rw[show a+1 - lnF t a=(a - lnF t a)+1 by omega,yB (by rw[yM];omega)]at hb;rcases yn.1 hb with hb|hb
    ·exact h1 b hb
    ·rw[yv.1 hb,List.getElem_drop]
     intro e;apply q;rw[<-e,yc (by omega)]
     congr 2;omega
theorem q82(b:UInt8)(h:b≠10):qdq.contains b=among b qag:=by
 have:∀n∈List.range 256,UInt8.ofNat n≠10->qdq.contains (UInt8.ofNat n)=among (UInt8.ofNat n) qag:=by decide +kernel
 have:=this b.toNat (xh.2 b.toNat_lt);rw[UInt8.ofNat_toNat]at this;exact this h
theorem qph{m:zU}(h:∀b∈m,b≠10):(∀b∈m,qdq.contains b=true)↔m.all (fun x=>among x qag)=true:=by
 rw[yX];exact⟨fun q b hb=>by rw[<-q82 b (h b hb)];exact q b hb,fun q b hb=>by rw[q82 b (h b hb)];exact q b hb⟩
theorem zds(t:zU)(a:Nat)(ha:a<=t.length):((Go.Lib.trimRightS (t.take a) qdq).getLast?.any (·!= 10)=!(emp t (lnF t a) a))/\(emp t (lnF t a) a=true->(Go.Lib.trimRightS (t.take a) qdq).length=lnF t a):=by
 obtain⟨h1,h2⟩:=qxi t a ha;have Ha:=q22 t a;have e:t.take a=t.take (lnF t a)++(t.drop (lnF t a)).take (a - lnF t a):=by
  rw[<-List.take_add,Nat.add_sub_cancel' Ha]
 have hf:Go.Lib.trimRightS (t.take (lnF t a)) qdq=t.take (lnF t a)/\(t.take (lnF t a)).getLast?.any (·!= 10)=false:=by
  rcases h2 with h2|⟨l,h2⟩
  ·rw[h2];exact⟨rfl,rfl⟩
  ·rw[h2,q7c]
   exact⟨rfl,by simp⟩
 unfold emp;rw[e,q7c];generalize (t.drop (lnF t a)).take (a - lnF t a)=m at h1;by_cases q:Go.Lib.trimRightS m qdq=[]
 ·have hm:=(qph h1).1 ((q7b _ _).1 q)
  rw[if_pos q,hf.1,hm];exact⟨hf.2,fun _=>by rw[yP];omega⟩
 ·have hm:m.all (fun x=>among x qag)=false:=by
   rw[ye];exact fun z=>q ((q7b _ _).2 ((qph h1).2 z))
  rw[if_neg q,hm];refine⟨?_,fun z=>by cases z⟩;obtain⟨b,hb,_,hl⟩:=za9 _ _ q;rw[List.getLast?_append,hl];simp[h1 b hb]
theorem zap(t:zU)(z:Nat)(hz:z<=t.length):((Go.Lib.trimLeftS (t.drop z) qdq).head?.any (·!= 10)=!(emp t z (lnT t z)))/\(emp t z (lnT t z)=true->t.length - (Go.Lib.trimPrefix (Go.Lib.trimLeftS (t.drop z) qdq) [10]).length=if lnT t z<t.length then lnT t z+1 else lnT t z):=by
 have e:t.drop z=(t.drop z).takeWhile (·!= 10)++(t.drop z).dropWhile (·!= 10):=List.takeWhile_append_dropWhile.symm;have h1:∀b∈(t.drop z).takeWhile (·!= 10),b≠10:=fun b hb=>by
  have:=zd1 _ _ b hb;simpa using this
 have hk:=zd7 t z hz;have Hb:emp t z (lnT t z)=((t.drop z).takeWhile (·!= 10)).all (fun x=>among x qag):=by
  unfold emp lnT;rw[Nat.add_sub_cancel_left]
  congr 1
  exact(List.prefix_iff_eq_take.1 (List.takeWhile_prefix _)).symm
 have hc:lnT t z=z+((t.drop z).takeWhile (·!= 10)).length:=rfl;have ha:((t.drop z).takeWhile (·!= 10)).length+((t.drop z).dropWhile (·!= 10)).length=t.length - z:=by
  rw[<-yJ,<-e,yM]
 have Ha:∀b,((t.drop z).dropWhile (·!= 10)).head?=some b->b=10:=fun b hb=>by
  have:=List.head?_dropWhile_not (·!= (10:UInt8)) (t.drop z);rw[hb]at this;simpa using this
 rw[Hb];generalize (t.drop z).takeWhile (·!= 10)=m at *;generalize (t.drop z).dropWhile (·!= 10)=r at *;by_cases q:∀b∈m,qdq.contains b=true
 ·have hm:=(qph h1).1 q
  rw[e,zet _ _ _ q,hm]
  match r,Ha,ha with
  |[],_,ha=>
    simp only[yQ]at ha;refine⟨rfl,fun _=>?_⟩;rw[if_neg (by omega)];show t.length - 0=_;omega
  |b::r,hh,ha=>
    obtain rfl:=hh b rfl;simp only[yK]at ha;have e2:Go.Lib.trimLeftS (10::r) qdq=10::r:=rfl;rw[e2];refine⟨rfl,fun _=>?_⟩;have e3:Go.Lib.trimPrefix (10::r) [10]=r:=by
     unfold Go.Lib.trimPrefix Go.Lib.hasPrefix;simp[List.isPrefixOf]
    rw[e3,if_pos (by omega)];omega
 ·have hm:m.all (fun x=>among x qag)=false:=by
   rw[ye];exact fun w=>q ((qph h1).2 w)
  rw[e,hm];refine⟨?_,fun w=>by cases w⟩;obtain⟨b,hb,hl⟩:=zba qdq m r q;rw[hl];simp[h1 b hb]
theorem q83(t:zU)(a z:Nat)(ha:a<=t.length)(hz:z<=t.length):qel t a z=if(emp t (lnF t a) a && emp t z (lnT t z))=true then(lnF t a,if lnT t z<t.length then lnT t z+1 else lnT t z)else(a,z):=by
 obtain⟨h1,h2⟩:=zds t a ha;obtain⟨h3,h4⟩:=zap t z hz;unfold qel;rw[h1,h3];cases e1:emp t (lnF t a) a
 ·rfl
 ·cases e2:emp t z (lnT t z)
  ·rfl
  ·rw[h2 e1,h4 e2];rfl
variable{a o:Nat}{c:Ct}
theorem qpf{t x:zU}(ha:a<=t.length)(h:qdr t x a=o):∃i,o=a+i/\Go.Lib.cut (t.drop a) x=((t.drop a).take i,t.drop (o+x.length),true)/\o+x.length<=t.length/\((t.drop a).take i).length=i:=by
 unfold qdr at h;split at h
 ·omega
 ·next q=>
  obtain⟨i,hi⟩:∃i:Nat,Go.Lib.index (t.drop a) x=i:=⟨(Go.Lib.index (t.drop a) x).toNat,by omega⟩;rw[hi]at h;have ho:o=a+i:=by omega
  have hr:=Go.Lib.index_room (t.drop a) x (by rw[hi];omega);rw[hi,yM]at hr;refine⟨i,ho,?_,?_,?_⟩
  ·unfold Go.Lib.cut
   rw[hi,if_pos (by omega),yD];have e:(i:Int).toNat=i:=by omega
   rw[e,ho,Nat.add_assoc]
  ·omega
  ·rw[yP,yM];omega
theorem qtg{t x:zU}(h:qdr t x a<0):(Go.Lib.cut (t.drop a) x).2.2=false:=by
 unfold qdr at h;split at h
 ·next q=>
  unfold Go.Lib.cut;rw[if_neg (by omega)]
 ·omega
theorem zhk{t:zU}(h:qdr t c.op a<0):c.step t a=.over (c.addText t a t.length):=qmh (qtg h)
theorem zhl{t:zU}(ha:a<=t.length)(h:qdr t c.op a=o)(h2:qdr t c.cl (o+c.op.length)<0):c.step t a=.slip 2 o:=by
 obtain⟨i,ho,hc,_,hl⟩:=qpf ha h;have e1:(Go.Lib.cut (t.drop a) c.op).1.length=i:=by rw[hc];exact hl
 have e2:(Go.Lib.cut (t.drop a) c.op).2.1=t.drop (o+c.op.length):=by rw[hc]
 rw[qgt (by rw[hc]) (by rw[e2];exact qtg h2),e1,ho]
def qh8(t:zU)(b z:Nat):zU:=(t.drop b).take (z - b)
theorem zia{t:zU}{z:Nat}(ha:a<=t.length)(h:qdr t c.op a=o)(h2:qdr t c.cl (o+c.op.length)=z)(l:Nat×Nat)
  (ho:(if(qba (Go.Lib.trimS (qh8 t (o+c.op.length) z) qag)).kind≠2 then qel t o (z+c.cl.length)else(o,z+c.cl.length))=l) :
  c.step t a=if((c.addText t a l.1).take (qba (Go.Lib.trimS (qh8 t (o+c.op.length) z) qag)) o).1≠0 then .slip ((c.addText t a l.1).take (qba (Go.Lib.trimS (qh8 t (o+c.op.length) z) qag)) o).1 o
   else .next ((c.addText t a l.1).take (qba (Go.Lib.trimS (qh8 t (o+c.op.length) z) qag)) o).2 l.2:=by
 obtain⟨i,hb,hc,hr,hl⟩:=qpf ha h;obtain⟨j,hz,Ha,_,Hb⟩:=qpf (by omega) h2;have e1:(Go.Lib.cut (t.drop a) c.op).1.length=i:=by rw[hc];exact hl
 have e2:(Go.Lib.cut (t.drop a) c.op).2.1=t.drop (o+c.op.length):=by rw[hc]
 have e3:(Go.Lib.cut (t.drop (o+c.op.length)) c.cl).1=qh8 t (o+c.op.length) z:=by
  rw[Ha];unfold qh8;rw[hz,Nat.add_sub_cancel_left]
 have e4:(Go.Lib.cut (t.drop (o+c.op.length)) c.cl).1.length=j:=by rw[Ha];exact Hb
 refine qpa (by rw[hc]) (by rw[e2,Ha]) _ (by rw[e2,e3]) o (z+c.cl.length) (by rw[e1,hb]) (by rw[e2,e4,hz]) l ho
theorem q9r{t x:zU}(ha:a<=t.length)(h:qdr t x a=o):a<=o/\o+x.length<=t.length:=by
 obtain⟨i,Ha,_,hr,_⟩:=qpf ha h;omega
theorem q3i(t x:zU)(a:Nat):qdr t x a=-1\/∃o:Nat,qdr t x a=o:=by
 unfold qdr;split
 ·exact .inl rfl
 ·next q=>exact .inr ⟨a+(Go.Lib.index (t.drop a) x).toNat,by omega⟩
end Pl
variable{w w':World}{g pn pcap k:Nat}{pa:Option Addr}
theorem qrf(l:zU):(Lib.cut l [46]).2.1.length<=l.length/\((Lib.cut l [46]).2.2=true->(Lib.cut l [46]).2.1.length+1<=l.length):=by
 unfold Lib.cut;split
 ·rename_i h
  have hr:=Lib.index_room l [46] (by omega);simp only[yK,yQ]at hr;refine⟨by rw[yM];omega,fun _=>?_⟩;simp only[yM,yK,yQ];omega
 ·exact⟨yH _,fun h=>by cases h⟩
theorem zc0(dv v:Value)(D:List Dt)(K:List Pc)(B:Nat)(w:World)(hD:DsAt B w dv D)(hK:qzm w dv v K)(hb:K≠[]) :
  zC 175 #[v,.string ⟨#[46]⟩] w (zR (qe0 dv ((K.head?).getD none)) w):=by
 obtain⟨so,cap,rfl,hl,hx⟩:=hK;obtain⟨b,rfl,Hc,ha⟩:=hx hb;obtain⟨p,l,rfl⟩:∃p l,K=p::l:=by
  cases K with
  |nil=>exact absurd rfl hb
  |cons p l=>exact⟨p,l,rfl⟩
 obtain⟨d0,d1⟩:=ha l.length p (by simp);have Hb:∀o,zW w (w.alloc o):=fun o=>zB o;obtain⟨pa,pn,pcap,hc⟩:=qgu hD p;rw[hc]at d0;have e0:=fun o=>((Hb o).cell (p:=zO b (l.length*2)) Hc).trans d0;have e1:=fun o=>((Hb o).cell (p:=zO b (l.length*2+1)) Hc).trans d1;have HV:Hid (qe0 dv (((p::l).head?).getD none)=.agg #[.slice pa pn pcap,zI (pcI p)]):=by
  show qe0 dv p=_;rw[qdk,hc]
 have Ha:(p::l).length=l.length+1:=rfl;rw[HV.out];rw[Ha];unfold maxLen at hl;have hn:(l.length:Int)+1<=9223372036854775807:=by rw[Ha]at hl;omega
 have he:((l.length+1:Nat):Int)=(l.length:Int)+1:=by omega
 have hs:IntKind.i64.wrap ((l.length:Int)+1 - 1)=(l.length:Int):=by rw[IntKind.wrap_i64];omega
 have hq:(l.length:Int)<(l.length:Int)+1:=by omega
 clear ha hx hl Ha d0 d1 Hb hc hb;generalize l.length=m at *;go_enter func175,ntmps175
 go_wp2
 exact qlt (g:=w.heap.size) results175 rfl rfl (xG w _) rfl ⟨rfl,zB _⟩
structure FpAt(w w':World)(g:Nat)(pa:Option Addr)(pn pcap k:Nat):Prop where
 pr:PrAt w w'
 blk:w'.heap[g]?=zK #[.slice pa pn pcap,zI k] 147
 gt:w.heap.size<g
theorem FpAt.next{w1:World}(h:FpAt w w1 g pa pn pcap k)(hb:zW w1 w'):FpAt w w' g pa pn pcap k:=
 ⟨h.pr.next hb,(hb.block _ (zL h.blk)).trans h.blk,h.gt⟩
theorem FpAt.drewN(h:FpAt w w' g pa pn pcap k)(n:Nat):FpAt w (w'.drewN n) g pa pn pcap k:=⟨⟨h.pr.res,qat h.pr.below n⟩,h.blk,h.gt⟩
theorem FpAt.set(h:FpAt w w' g pa pn pcap k)(qa:Option Addr)(qn qcap q:Nat):FpAt w ((w'.setCell (zO g 0) (.slice qa qn qcap)).setCell (zO g 1) (zI q)) g qa qn qcap q:=by
 have ha:w.heap.size≠g:=Nat.ne_of_lt h.gt;refine⟨⟨?_,(h.pr.below.setCell (p:=zO g 0) (yj h.gt) _).setCell (p:=zO g 1) (yj h.gt) _⟩,xH _ _ _ _ _ _ (xH _ _ _ _ _ _ h.blk),h.gt⟩;rw[xL _ _ _ _ ha,xL _ _ _ _ ha];exact h.pr.res
theorem FpAt.facts(h:FpAt w w' g pa pn pcap k):(w'.cell? (zO g 0)=some (.slice pa pn pcap)/\w'.cell? (zO g 1)=some (zI k))/\w'.frozen? (zO g 0)=false/\w'.frozen? (zO g 1)=false:=by
 have c:=qaa h.blk;refine⟨⟨c 0 _ rfl,c 1 _ rfl⟩,?_⟩;simp[World.frozen?,h.blk]
def reM:Value->Value->Nat
 |.string s,.bool true=>s.size+1
 |_,_=>0
theorem q9g(D:List Dt)(f:Nat)(p:Pc)(rest:zU):qq7 D f p rest false=p:=by cases f<;>rfl
theorem q1o(D:List Dt)(f:Nat)(p:Pc)(rest:zU):qq7 D (f+1) p rest true=qq7 D f ((qo1 D p (Lib.cut rest [46]).1).getD none) (Lib.cut rest [46]).2.1 (Lib.cut rest [46]).2.2:=rfl
theorem q58(dv v:Value)(D:List Dt)(K:List Pc)(name:zT)(B:Nat)(w:World)(hB:B<=w.heap.size)(hD:DsAt B w dv D)(hK:qzm w dv v K)(hm:qa3 w)(hs:name.size<=100000)(hf:name.data.toList≠[46]) :
  zC 175 #[v,.string name] w (zR (qe0 dv (qe3 D K name.data.toList)) w):=by
 have hq:(name.toList==[46])=false:=by
  rw[yf,yW];exact hf
 obtain⟨R,HR⟩:∃R,Hid (qe3 D K name.data.toList=R):=⟨_,rfl⟩;rw[HR.out];have Hb:Hid (qq7 D (name.data.toList.length+1) (qh6 D (Lib.cut name.data.toList [46]).1 K) (Lib.cut name.data.toList [46]).2.1 (Lib.cut name.data.toList [46]).2.2=R):=by
  show _=_;rw[<-HR.out];unfold qe3;rw[if_neg hf]
 have ha:=qrf name.data.toList;have HC:Hid (∀(s:zT) (w':World),s.size<=100000->zW w w'->zC 146 #[.string s,.string ⟨#[46]⟩] w' fun e w2=>e=.returned (.tuple #[zV ((Lib.cut s.data.toList [46]).1),zV ((Lib.cut s.data.toList [46]).2.1),.bool (Lib.cut s.data.toList [46]).2.2])/\∃n,w2=w'.drewN n):=fun s w' hs hb=>by
  obtain⟨m,Hj⟩:=hm.below hb;exact strings_Cut s ⟨#[46]⟩ m w' (by omega) Hj
 have hi:Hid (∀(s:zT) (w':World),zW w w'->zC 213 #[v,.string s] w' fun e w2=>e=.returned (qe0 dv (qh6 D s.data.toList K))/\zW w' w2):=fun s w' hb=>qz2 dv v D K s B w' (yh hB hb.size) (hD.below (hb.mono hB)) (hK.below (yg _) hb);have hk:Hid (∀(p:Pc) (s:zT) (w':World),zW w w'->zC 214 #[qe0 dv p,.string s] w' fun e w2=>e=.returned (qtf dv (qo1 D p s.data.toList))/\zW w' w2):=fun p s w' hb=>qyb dv D p s B w' (yh hB hb.size) (hD.below (hb.mono hB));have HA:=zH (qgu hD);obtain⟨so,cap,rfl,_⟩:=hK;generalize hcut:Lib.cut name.data.toList [46]=c0 at Hb ha;obtain⟨wd,rest,more⟩:=c0;simp only at Hb ha;obtain⟨p0,Hf⟩:∃p0,qh6 D wd K=p0:=⟨_,rfl⟩;rw[Hf]at Hb;obtain⟨qa,qn,qcap,hg⟩:=HA.out p0;have Hi:Hid (∀o,zC 146 #[.string name,.string ⟨#[46]⟩] (w.alloc o) fun e w2=>e=.returned (.tuple #[zV wd,zV rest,.bool more])/\∃n,w2=(w.alloc o).drewN n):=fun o=>by
  have:=HC.out name (w.alloc o) hs (zB o);rw[hcut]at this;exact this
 have hj:Hid (∀w',zW w w'->zC 213 #[.slice so K.length cap,zV wd] w' fun e w2=>e=.returned (.agg #[.slice qa qn qcap,zI (pcI p0)])/\zW w' w2):=fun w' hb=>by
  have:=hi.out ⟨wd.toArray⟩ w' hb;have e:qh6 D (ByteArray.mk wd.toArray).data.toList K=p0:=Hf;rw[e,qdk,hg]at this;exact this
 have Ho:name.data.toList.length=name.size:=by simp
 have Ha:more=true->rest.length+1<=name.data.toList.length+1:=fun h=>by have:=ha.2 h;omega
 have Hc:rest.length<=100000:=by have:=ha.1;omega
 clear hf hm hD hi hcut Hf HR ha;generalize name.data.toList.length+1=fu at Hb Ha;go_enter func175,ntmps175
 go_wp2_with (first
  |(go_at_call 146;refine xR (Hi.out _) ?_;rintro e w' ⟨rfl,n,rfl⟩)
  | (go_at_call 213;refine xR (hj.out _ (qat (zB _) n)) ?_;rintro e w1 ⟨rfl,hb⟩))
 have hF:FpAt w (w1.alloc (.cells #[.slice qa qn qcap,zI (pcI p0)] 147)) w1.heap.size qa qn qcap (pcI p0):=by
  have h0:PrAt w ((w.alloc (.cells #[zN,zI 0] 147)).drewN n):=⟨(qut w).res,qat (qut w).below n⟩;have h1:=h0.next hb;exact⟨h1.next (zB _),xG w1 _,h1.lt⟩
 have HF:=zH hF;clear hF hb Hi hj;generalize w1.alloc _=W at HF |-;generalize w1.heap.size=g at HF |-;go_loopw [5,6,7] (fun a b c wr=>∃(f:Nat) (p:Pc) (wd rest:zU) (more:Bool) (pa:Option Addr) (pn pcap:Nat),a=zV wd/\b=zV rest/\c=.bool more/\rest.length<=100000/\(more=true->rest.length+1<=f)/\Hid (qq7 D f p rest more=R)/\Hid (pcA dv p=.slice pa pn pcap)/\Hid (FpAt w wr g pa pn pcap (pcI p))) (fun _ b c _=>reM b c)
 case atStart=>exact⟨fu,p0,wd,rest,more,qa,qn,qcap,rfl,rfl,rfl,Hc,Ha,Hb,hg,HF.out⟩
 case round=>
  clear HF Hb Ha Hc hg;obtain⟨f,p,wd,rest,more,pa,pn,pcap,rfl,rfl,rfl,Hc,he,HG,HP,HF⟩:=hrel;obtain⟨⟨k0,k1⟩,f0,f1⟩:=HF.out.facts;cases more with
  |false=>
    have HE:Hid (qe0 dv R=.agg #[.slice pa pn pcap,zI (pcI p)]):=by
     show _=_;rw[<-HG.out,q9g,qdk,HP.out]
    obtain⟨⟨r0,r1⟩,g0,g1⟩:=HF.out.pr.facts;clear HG he;go_wp2
    rw[HE.out];exact qlt (g:=w.heap.size) results175 rfl rfl (xH _ _ _ _ _ _ (xH _ _ _ _ _ _ HF.out.pr.res)) rfl ⟨rfl,(HF.out.pr.below.setCell (p:=zO w.heap.size 0) (yg _) _).setCell (p:=zO w.heap.size 1) (yg _) _⟩
  |true=>
    obtain⟨f',rfl⟩:∃f',f=f'+1:=⟨f - 1,by have:=he rfl;omega⟩;have ha:=qrf rest;obtain⟨c0,He⟩:∃c0,Lib.cut rest [46]=c0:=⟨_,rfl⟩;obtain⟨wd2,rest2,more2⟩:=c0;have hc:=HG.out;rw[q1o,He]at hc;rw[He]at ha;simp only at hc ha;have Hk:Hid (zC 146 #[zV rest,.string ⟨#[46]⟩] wr fun e w2=>e=.returned (.tuple #[zV wd2,zV rest2,.bool more2])/\∃n,w2=wr.drewN n):=by
     have:=HC.out ⟨rest.toArray⟩ wr (by rw[qb1];exact Hc) HF.out.pr.below;have e:Lib.cut (ByteArray.mk rest.toArray).data.toList [46]=(wd2,rest2,more2):=He;rw[e]at this;exact this
    obtain⟨r,hr⟩:∃r,qo1 D p wd2=r:=⟨_,rfl⟩;rw[hr]at hc;obtain⟨qa,qn,qcap,hq⟩:=HA.out (r.getD none);have hl:Hid (∀n,zC 214 #[.agg #[.slice pa pn pcap,zI (pcI p)],zV wd2] (wr.drewN n) fun e w2=>e=.returned (.tuple #[.agg #[.slice qa qn qcap,zI (pcI (r.getD none))],.bool r.isSome])/\Below (wr.drewN n).heap.size (wr.drewN n) w2):=fun n=>by
     have:=hk.out p ⟨wd2.toArray⟩ (wr.drewN n) (HF.out.drewN n).pr.below;have e:qo1 D p (ByteArray.mk wd2.toArray).data.toList=r:=hr;rw[e,qdk,HP.out]at this;unfold qtf at this;rw[qdk,hq]at this;exact this
    have Hl:=zH hc;have HQ:=zH hq;have l0:=fun n=>(HF.out.drewN n).facts.1.1;have l1:=fun n=>(HF.out.drewN n).facts.1.2;have Hm:rest2.length<=100000:=by have:=ha.1;omega
    have hn:more2=true->rest2.length+1<=f':=fun h=>by have:=ha.2 h;have:=he rfl;omega
    have Hn:more2=true->rest2.length+1<=rest.length:=ha.2;clear HG hc hq hr He ha he k0 k1 f0 f1
    go_wp2_with (first
     |(go_at_call 146;refine xR Hk.out ?_;rintro e w' ⟨rfl,n,rfl⟩)
     | (go_at_call 214;refine xR (hl.out n) ?_;rintro e w2 ⟨rfl,hb⟩;have Hg:=(HF.out.drewN n).next hb;have ho:=zH Hg;obtain⟨⟨m0,m1⟩,f0,f1⟩:=Hg.facts;clear Hg hb))
    go_roundw
    case rel=>exact⟨f',r.getD none,wd2,rest2,more2,qa,qn,qcap,rfl,rfl,rfl,Hm,hn,Hl,HQ,ho.out.set qa qn qcap _⟩
    case measure=>
     cases more2 with
     |false=>exact Nat.succ_pos _
     |true=>
       have:=Hn rfl;show(ByteArray.mk rest2.toArray).size+1<(ByteArray.mk rest.toArray).size+1;rw[qb1,qb1];omega
theorem q3j(dv v:Value)(D:List Dt)(K:List Pc)(name:zT)(B:Nat)(w:World)(hB:B<=w.heap.size)(hD:DsAt B w dv D)(hK:qzm w dv v K)(hm:qa3 w)(hs:name.size<=100000)(ha:K≠[]) :
  zC 175 #[v,.string name] w (zR (qe0 dv (qe3 D K name.data.toList)) w):=by
 by_cases h:name.data.toList=[46]
 ·obtain rfl:name=⟨#[46]⟩:=xj (Array.toList_inj.1 h)
  have e:qe3 D K (ByteArray.mk #[46]).data.toList=(K.head?).getD none:=by unfold qe3;rw[if_pos rfl]
  rw[e];exact zc0 dv v D K B w hD hK ha
 ·exact q58 dv v D K name B w hB hD hK hm hs h
end Go.Proofs.YtfkhljmiehdgmaaGreatDoor
