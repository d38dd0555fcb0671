/-
  Steps of the proof.
-/
import Derived.Test.YtfkhljmiehdgmaaGreatDoorCuBD
set_option maxRecDepth 100000
set_option maxHeartbeats 40000000
namespace Go.Proofs.YtfkhljmiehdgmaaGreatDoor
open Go.RowKit Go.Proofs.Tryz Pl
namespace Pl
def lnF(s:zU):Nat->Nat
 |0=>0
 |k+1=>if s[k]?=some 10 then k+1 else lnF s k
def lnT(s:zU)(z:Nat):Nat:=z+((s.drop z).takeWhile (·!= 10)).length
def emp(s:zU)(a b:Nat):Bool:=((s.drop a).take (b - a)).all (fun x=>among x qag)
theorem q22(s:zU):∀k,lnF s k<=k
 |0=>yg _
 |k+1=>by
   unfold lnF;split
   ·exact yg _
   ·exact Nat.le_succ_of_le (q22 s k)
theorem zd7(s:zU)(z:Nat)(h:z<=s.length):z<=lnT s z/\lnT s z<=s.length:=by
 unfold lnT;have:=(List.takeWhile_sublist (p:=fun x:UInt8=>x != 10) (l:=s.drop z)).length_le;rw[yM]at this;omega
theorem q21(s:zU)(z:Nat)(h:s[z]?=some 10\/s.length<=z):lnT s z=z:=by
 unfold lnT;rcases h with h|h
 ·obtain⟨y,D⟩:=yb.1 h
  rw[yo y,D];rfl
 ·rw[List.drop_of_length_le h];rfl
theorem zcd(s:zU)(z:Nat)(b:UInt8)(h:s[z]?=some b)(y:b≠10):lnT s z=lnT s (z+1):=by
 obtain⟨D,I⟩:=yb.1 h;unfold lnT;rw[yo D,I,List.takeWhile_cons_of_pos (by simpa using y),yK];omega
theorem zf7(s:zU)(a b:Nat)(h:b<=a):emp s a b=true:=by
 unfold emp;rw[show b - a=0 by omega];rfl
theorem zda(s:zU)(a b:Nat)(x:UInt8)(h:a<b)(y:s[a]?=some x):emp s a b=(among x qag && emp s (a+1) b):=by
 obtain⟨z,D⟩:=yb.1 y;unfold emp;rw[yo z,D,show b - a=(b - (a+1))+1 by omega];rfl
theorem qk1(b:UInt8)(l:zU):among b l=l.contains b:=by
 rw[xh,qho,List.contains_iff_mem]
theorem zgx(X:zT)(h:0<X.size)(y:among X[0] qag=true):Go.Lib.trimLeftS X.data.toList qag=Go.Lib.trimLeftS (X.extract 1 X.size).data.toList qag:=by
 rw[extract_drop];have z:0<X.data.toList.length:=h;have e:X.data.toList=X[0]::X.data.toList.drop 1:=by
  have:=yo z
  rwa [List.drop_zero]at this
 show _=Go.Lib.trimLeftS (X.data.toList.drop 1) qag;unfold Go.Lib.trimLeftS;rw[yE (List.dropWhile _) e,xw (by rw[<-qk1];exact y)]
theorem zhy(X:zT)(h:∀q:0<X.size,among X[0] qag=false):Go.Lib.trimLeftS X.data.toList qag=X.data.toList:=by
 unfold Go.Lib.trimLeftS;by_cases q:0<X.data.toList.length
 ·have e:X.data.toList=X[0]::X.data.toList.drop 1:=by
   have:=yo q
   rwa [List.drop_zero]at this
  rw[e,xu (by rw[<-qk1,h q];simp)]
 ·rw[yC (by omega:X.data.toList.length=0)];rfl
theorem qnr(X:zT)(h:0<X.size):X.data.toList=X.data.toList.take (X.size - 1)++[X[X.size - 1]]:=by
 have:=qdn X (X.size - 1) (by omega);rw[Nat.sub_add_cancel h,qeo X _ (yg _)]at this;exact this
theorem zgv(X:zT)(h:0<X.size)(y:among X[X.size - 1] qag=true):Go.Lib.trimRightS X.data.toList qag=Go.Lib.trimRightS (X.extract 0 (X.size - 1)).data.toList qag:=by
 rw[extract_take];show _=Go.Lib.trimRightS (X.data.toList.take (X.size - 1)) qag;unfold Go.Lib.trimRightS;rw[yE List.reverse (qnr X h),List.reverse_append,List.reverse_cons,List.reverse_nil,xC,List.singleton_append,xw (by rw[<-qk1];exact y)]
theorem zgw(X:zT)(h:∀q:0<X.size,among X[X.size - 1] qag=false):Go.Lib.trimRightS X.data.toList qag=X.data.toList:=by
 unfold Go.Lib.trimRightS;by_cases q:0<X.size
 ·rw[yE List.reverse (qnr X q),List.reverse_append,List.reverse_cons,List.reverse_nil,xC,List.singleton_append,xu (by rw[<-qk1,h q];simp),
   List.reverse_cons,List.reverse_reverse]
  exact(qnr X q).symm
 ·rw[yC (show X.data.toList.length=0 from by have:X.data.toList.length=X.size:=rfl;omega)];rfl
theorem quf(x:UInt8)(t cs:zU):Go.Lib.trimRightS (x::t) cs=if Go.Lib.trimRightS t cs=[]then(if cs.contains x=true then[]else[x])else x::Go.Lib.trimRightS t cs:=by
 unfold Go.Lib.trimRightS;rw[List.reverse_cons,List.dropWhile_append];cases h:t.reverse.dropWhile (cs.contains ·)with
 |nil=>
   show(List.dropWhile (cs.contains ·) [x]).reverse=(if cs.contains x=true then[]else[x]);by_cases q:cs.contains x=true
   ·rw[if_pos q,xw q];rfl
   ·rw[if_neg q,xu q];rfl
 |cons a l=>simp
theorem qpx(cs:zU):∀l:zU,Go.Lib.trimRightS (Go.Lib.trimLeftS l cs) cs=Go.Lib.trimS l cs
 |[]=>rfl
 |x::t=>by
   have ih:=qpx cs t;unfold Go.Lib.trimS at ih |-;rw[quf];by_cases q:cs.contains x=true
   ·have e:Go.Lib.trimLeftS (x::t) cs=Go.Lib.trimLeftS t cs:=xw q
    rw[e,ih,if_pos q];by_cases z:Go.Lib.trimRightS t cs=[]
    ·rw[if_pos z,z]
    ·rw[if_neg z]
     exact(xw q).symm
   ·have e:Go.Lib.trimLeftS (x::t) cs=x::t:=xu q
    rw[e,quf,if_neg q];split
    ·exact(xu q).symm
    ·exact(xu q).symm
end Pl
theorem q1z(s:zT)(a b:Nat)(w:World)(O:s.size<=1000000)(T:b<=s.size)(z:a<=b) :
  zC 86 #[.string s,zI a,zI b] w (zQ (.bool (Pl.emp s.data.toList a b)) w):=by
 go_enter func86,ntmps86
 go_wp2
 go_loop [7] (fun i=>∃k:Nat,k<=b/\i=zI k/\Hid (Pl.emp s.data.toList a b=Pl.emp s.data.toList k b)) (fun i=>b - (intOf i).toNat)
 case atStart=>exact⟨a,z,rfl,by show _=_;rfl⟩
 case round=>
  obtain⟨k,U,rfl,V⟩:=hrel;by_cases D:k<b
  ·have y:(k:Int)<(b:Int):=by omega
   have I:k<s.size:=by omega
   have J:(k:Int)<(s.size:Int):=by omega
   have X:=zH (Pl.zda s.data.toList k b s[k] D (qe5 s k I));by_cases Y:Pl.among s[k] Pl.qag=true
   ·go_wp2_with (go_at_call 80;refine cm (qed s[k] _ Pl.qag _ rfl (by decide)) ?_;rw[Y])
    go_round
    case rel=>exact⟨k+1,by omega,by go_num,by show _=_;rw[V.out,X.out,Y];rfl⟩
    case measure=>simp[intOf];omega
   ·have Y:=ye.2 Y
    go_wp2_with (go_at_call 80;refine cm (qed s[k] _ Pl.qag _ rfl (by decide)) ?_;rw[Y])
    go_ret
    exact⟨by rw[V.out,X.out,Y];rfl,rfl⟩
  ·have y:decide ((k:Int)<(b:Int))=false:=by rw[yO];omega
   have Z:=zH (V.out.trans (Pl.zf7 _ _ _ (by omega)));go_wp2
   go_ret
   exact⟨by rw[Z.out];rfl,rfl⟩
theorem qxj(s:zT)(a:Nat)(w:World)(D:s.size<=1000000)(I:a<=s.size) :
  zC 84 #[.string s,zI a] w (zQ (zI (Pl.lnF s.data.toList a)) w):=by
 go_enter func84,ntmps84
 go_wp2
 go_loop [1] (fun i=>∃k:Nat,k<=a/\i=zI k/\Hid (Pl.lnF s.data.toList a=Pl.lnF s.data.toList k)) (fun i=>(intOf i).toNat)
 case atStart=>exact⟨a,yg _,rfl,by show _=_;rfl⟩
 case round=>
  obtain⟨k,J,rfl,O⟩:=hrel
  match k,J with
  |0,_=>
    go_wp2
    go_ret
    exact⟨by rw[O.out];rfl,rfl⟩
  |k+1,J=>
    have y:k<s.size:=by omega
    have e1:(((k+1:Nat):Int) - 1)=(k:Int):=by omega
    have e0:(((k+1:Nat):Int) > 0):=by omega
    have z:(k:Int)<(s.size:Int):=by omega
    have T:Hid (Pl.lnF s.data.toList (k+1)=if s[k]=10 then k+1 else Pl.lnF s.data.toList k):=by
     show _=_
     conv=>lhs;unfold Pl.lnF
     rw[qe5 s k y];simp only[Option.some.injEq]
    by_cases U:s[k]=10
    ·have V:((s[k].toNat:Int)==10)=true:=by rw[U];rfl
     go_wp2
     go_ret
     exact⟨by rw[O.out,T.out,if_pos U];rfl,rfl⟩
    ·have V:((s[k].toNat:Int)==10)=false:=by
      have:=qil s[k] 10 (by decide);rw[yf.2 (show s[k]≠UInt8.ofNat 10 from U)]at this;exact this
     go_wp2
     go_round
     case rel=>exact⟨k,by omega,by go_num,by show _=_;rw[O.out,T.out,if_neg U]⟩
     case measure=>simp[intOf]
theorem q5r(s:zT)(a:Nat)(w:World)(D:s.size<=1000000)(I:a<=s.size) :
  zC 85 #[.string s,zI a] w (zQ (zI (Pl.lnT s.data.toList a)) w):=by
 go_enter func85,ntmps85
 go_wp2
 go_loop [1] (fun i=>∃k:Nat,k<=s.size/\i=zI k/\Hid (Pl.lnT s.data.toList a=Pl.lnT s.data.toList k)) (fun i=>s.size - (intOf i).toNat)
 case atStart=>exact⟨a,I,rfl,by show _=_;rfl⟩
 case round=>
  obtain⟨k,J,rfl,O⟩:=hrel;by_cases z:k<s.size
  ·have y:(k:Int)<(s.size:Int):=by omega
   by_cases T:s[k]=10
   ·have U:=zH (O.out.trans (Pl.q21 _ k (.inl (by rw[qe5 s k z,T]))))
    have V:((s[k].toNat:Int)==10)=true:=by rw[T];rfl
    go_wp2
    go_ret
    exact⟨by rw[U.out];rfl,rfl⟩
   ·have U:=zH (O.out.trans (Pl.zcd _ k _ (qe5 s k z) T))
    have V:((s[k].toNat:Int)==10)=false:=by
     have:=qil s[k] 10 (by decide);rw[yf.2 (show s[k]≠UInt8.ofNat 10 from T)]at this;exact this
    go_wp2
    go_round
    case rel=>exact⟨k+1,by omega,by go_num,U⟩
    case measure=>simp[intOf];omega
  ·have y:decide ((k:Int)<(s.size:Int))=false:=by rw[yO];omega
   have U:=zH (O.out.trans (Pl.q21 _ k (.inr (by show s.size<=k;omega))));go_wp2
   go_ret
   exact⟨by rw[U.out];rfl,rfl⟩
theorem qpw(s:zT)(w:World)(J:s.size<=1000000) :
  zC 82 #[.string s] w (zQ (.string ⟨(Go.Lib.trimS s.data.toList Pl.qag).toArray⟩) w):=by
 go_enter func82,ntmps82
 go_wp2
 go_loop [0] (fun v=>∃X:zT,X.size<=s.size/\v=.string X/\Hid (Go.Lib.trimLeftS s.data.toList Pl.qag=Go.Lib.trimLeftS X.data.toList Pl.qag)) (fun v=>match v with|.string X=>X.size|_=>0)
 case atStart=>exact⟨s,yg _,rfl,by show _=_;rfl⟩
 case round=>
  obtain⟨X,O,rfl,T⟩:=hrel;by_cases U:0<X.size/\∃q:0<X.size,Pl.among X[0] Pl.qag=true
  ·obtain⟨D,_,V⟩:=U
   have y:(X.size:Int) > 0:=by omega
   have Z:=zH (T.out.trans (Pl.zgx X D V));have hz:(X.extract 1 X.size).size<X.size:=by rw[Pl.extract_drop,qb1,yM];show X.size - 1<X.size;omega
   clear T;go_wp2_with (go_at_call 80;refine cm (qed X[0] _ Pl.qag _ rfl (by decide)) ?_;rw[V])
   go_round
   case rel=>exact⟨_,by omega,rfl,Z⟩
   case measure=>exact hz
  ·have hF:Go.Lib.trimLeftS X.data.toList Pl.qag=X.data.toList:=Pl.zhy X (fun q=>by
    rw[ye];exact fun z=>U ⟨q,q,z⟩)
   have Z:=zH (T.out.trans hF);clear T hF;have HK:Hid (∀Y:zT,Y.size<=X.size->Go.Lib.trimRightS Y.data.toList Pl.qag=Y.data.toList->Go.Lib.trimRightS X.data.toList Pl.qag=Go.Lib.trimRightS Y.data.toList Pl.qag->Y=⟨(Go.Lib.trimS s.data.toList Pl.qag).toArray⟩):=by
    intro Y _ h1 h2;rw[<-Pl.qpx,Z.out,h2,h1]
   clear Z;by_cases D:0<X.size
   ·have y:(X.size:Int) > 0:=by omega
    have V:Pl.among X[0] Pl.qag=false:=ye.2 (fun z=>U ⟨D,D,z⟩);clear U;go_wp2_with (go_at_call 80;refine cm (qed X[0] _ Pl.qag _ rfl (by decide)) ?_;rw[V])
    clear V;go_loop [0] (fun v=>∃Y:zT,Y.size<=X.size/\v=.string Y/\Hid (Go.Lib.trimRightS X.data.toList Pl.qag=Go.Lib.trimRightS Y.data.toList Pl.qag)) (fun v=>match v with|.string X=>X.size|_=>0)
    case atStart=>exact⟨X,yg _,rfl,by show _=_;rfl⟩
    case round=>
     obtain⟨Y,hY,rfl,T⟩:=hrel;by_cases U:0<Y.size/\∃q:0<Y.size,Pl.among Y[Y.size - 1] Pl.qag=true
     ·obtain⟨D,_,V⟩:=U
      have y:(Y.size:Int) > 0:=by omega
      have I:(0:Int)<=(Y.size:Int) - 1:=by omega
      have Z:=zH (T.out.trans (Pl.zgv Y D V));have hz:(Y.extract 0 (Y.size - 1)).size<Y.size:=by rw[Pl.extract_take,qb1,yP];omega
      clear T;go_wp2_with (go_at_call 80;refine cm (qed Y[Y.size - 1] _ Pl.qag _ rfl (by decide)) ?_;rw[V])
      go_round
      case rel=>exact⟨_,by omega,rfl,Z⟩
      case measure=>exact hz
     ·have Z:=(show Hid _ from HK.out Y hY (Pl.zgw Y (fun q=>by
       rw[ye];exact fun z=>U ⟨q,q,z⟩)) T.out)
      clear T HK;by_cases D:0<Y.size
      ·have y:(Y.size:Int) > 0:=by omega
       have I:(0:Int)<=(Y.size:Int) - 1:=by omega
       have V:Pl.among Y[Y.size - 1] Pl.qag=false:=ye.2 (fun z=>U ⟨D,D,z⟩);clear U;go_wp2_with (go_at_call 80;refine cm (qed Y[Y.size - 1] _ Pl.qag _ rfl (by decide)) ?_;rw[V])
       go_ret
       exact⟨qcl Z.out,rfl⟩
      ·have y:decide ((Y.size:Int) > 0)=false:=by rw[yO];omega
       clear U;go_wp2
       go_ret
       exact⟨qcl Z.out,rfl⟩
   ·have y:decide ((X.size:Int) > 0)=false:=by rw[yO];omega
    clear U;go_wp2
    go_loop [0] (fun v=>∃Y:zT,Y.size<=X.size/\v=.string Y/\Hid (Go.Lib.trimRightS X.data.toList Pl.qag=Go.Lib.trimRightS Y.data.toList Pl.qag)) (fun v=>match v with|.string X=>X.size|_=>0)
    case atStart=>exact⟨X,yg _,rfl,by show _=_;rfl⟩
    case round=>
     obtain⟨Y,hY,rfl,T⟩:=hrel;have Z:=zH (HK.out Y hY (Pl.zgw Y (fun q=>by omega)) T.out);clear T HK;have y:decide ((Y.size:Int) > 0)=false:=by rw[yO];omega
     go_wp2
     go_ret
     exact⟨qcl Z.out,rfl⟩
theorem qxw:(prog.info? 9).map (fun i=>(i.zero,i.size,i.bytes))=some (some (zS),1,16):=by kernel_rfl
def qll(L:List zU):List Value:=L.map fun l=>.string ⟨l.toArray⟩
theorem qod(L:List zU)(l:zU):qll (L++[l])=qll L++[.string ⟨l.toArray⟩]:=by unfold qll;simp
def qgk(B:Nat)(w:World)(v:Value)(L:List zU):Prop:=w.ownsRow B 9 1 v L.length (qll L)
theorem qgk.slice{B:Nat}{w:World}{v:Value}{L:List zU}(h:qgk B w v L):∃ao cap,v=.slice ao L.length cap:=qaq h
theorem qco(s:zT)(a z:Nat):s.extract a z=⟨((s.data.toList.drop a).take (z - a)).toArray⟩:=qg6 s.data.toList a z
namespace Pl
def cur(l:zU)(f k:Nat):zU:=(l.drop f).take (k - f)
theorem qri(l:zU)(k:Nat):cur l k k=[]:=by unfold cur;rw[xz];rfl
theorem q3t(l:zU)(f k:Nat)(b:UInt8)(y:f<=k)(h:l[k]?=some b):cur l f (k+1)=cur l f k++[b]:=by
 obtain⟨z,D⟩:=yb.1 h;unfold cur;rw[show k+1 - f=(k - f)+1 by omega,yB (by rw[yM];omega),List.getElem_drop]
 congr 2
 rw[<-D];congr 1;omega
theorem zee(l:zU)(f k:Nat)(y:f<k)(z:k<=l.length):cur l f k≠[]:=by
 intro e;have:=yE List.length e;unfold cur at this;rw[yP,yM]at this;simp at this;omega
theorem qpl(l:zU)(f k:Nat)(b:UInt8)(h:l[k]?=some b)(y:among b qag=true)(z:f<=k):qbo (cur l f k) (l.drop k)=if f<k then cur l f k::qbo (cur l (k+1) (k+1)) (l.drop (k+1))else qbo (cur l (k+1) (k+1)) (l.drop (k+1)):=by
 obtain⟨D,I⟩:=yb.1 h;rw[yo D,I,qri]
 conv=>lhs;unfold qbo
 rw[if_pos y];by_cases q:f<k
 ·rw[if_pos q,if_neg (zee l f k q (by omega))]
 ·rw[if_neg q,show f=k by omega,qri,if_pos rfl]
theorem q31(l:zU)(f k:Nat)(b:UInt8)(h:l[k]?=some b)(y:among b qag=false)(z:f<=k):qbo (cur l f k) (l.drop k)=qbo (cur l f (k+1)) (l.drop (k+1)):=by
 obtain⟨D,I⟩:=yb.1 h;rw[yo D,I,q3t l f k b z h]
 conv=>lhs;unfold qbo
 rw[if_neg (by rw[y];simp)]
theorem qv9(l:zU)(f k:Nat)(y:k=l.length)(z:f<=k):qbo (cur l f k) (l.drop k)=if f<k then[cur l f k]else[]:=by
 rw[y,List.drop_length];unfold qbo;by_cases q:f<k
 ·rw[<-y,if_pos q,if_neg (zee l f k q (by omega))]
 ·rw[<-y,if_neg q,show f=k by omega,qri,if_pos rfl]
end Pl
structure WdAt(B:Nat)(w wr:World)(s:zT)(v:Value)(acc:List zU)(f k:Nat):Prop where
 own:qgk B wr v acc
 below:Below B w wr
 fk:f<=k
 len:acc.length<=k
 eq:k<=s.size->qfy s.data.toList=acc++Pl.qbo (Pl.cur s.data.toList f k) (s.data.toList.drop k)
 fin:s.size<k->qfy s.data.toList=acc
theorem q6x(s:zT)(w:World)(hs:s.size<=1000000) :
  zC 121 #[.string s] w fun e w'=>(∃v,e=.returned v/\qgk w.heap.size w' v (qfy s.data.toList))/\zW w w':=by
 obtain⟨i0,hi,Hb,Hc,he⟩:=info_parts qxw;go_enter func121,ntmps121
 go_wp2
 go_loopw [3,4,5] (fun v f i wr=>∃(k fn:Nat) (acc:List zU),k<=s.size+1/\i=zI k/\f=zI fn/\Hid (WdAt w.heap.size w wr s v acc fn k)) (fun _ _ i _=>s.size+1 - (intOf i).toNat)
 case atStart=>exact⟨0,0,[],yH _,rfl,rfl,⟨World.ownsRow_nil _ _ _ _,xL _ _,yg _,yg _,fun _=>rfl,fun h=>absurd h (yZ _)⟩⟩
 case round=>
  obtain⟨k,fn,acc,hk,rfl,rfl,H⟩:=hrel;have hz:=H.out.below.size;have V:=H.out.fk;have Hf:=H.out.len;obtain⟨ao,cap,rfl⟩:=H.out.own.slice;by_cases Z:k<=s.size
  rotate_left
  ·have ha:¬(k:Int)<=(s.size:Int):=by omega
   go_wp2
   go_ret
   exact⟨⟨_,rfl,by rw[H.out.fin (by omega)];exact H.out.own⟩,H.out.below⟩
  have ha:(k:Int)<=(s.size:Int):=by omega
  have HP:Hid (∀(v':Value) (w1:World),fn<k->(k=s.size\/∃q:k<s.size,Pl.among s[k] Pl.qag=true)->w1.ownsRow w.heap.size 9 1 v' (acc.length+1) (qll acc++[.string (s.extract fn k)])->zW w w1->WdAt w.heap.size w w1 s v' (acc++[Pl.cur s.data.toList fn k]) (k+1) (k+1)):=by
   intro v' w1 J hc Ha hb;have e:=H.out.eq Z;refine⟨?_,hb,yg _,by rw[yJ];simp only[yK,yQ];omega,fun h2=>?_,fun h2=>?_⟩
   ·show w1.ownsRow _ _ _ _ _ _
    rw[qod,yJ];unfold Pl.cur;rw[<-qco];exact Ha
   ·rcases hc with hc | ⟨q,hc⟩
    ·omega
    ·rw[e,Pl.qpl _ fn k _ (qe5 s k q) hc V,if_pos J,yq];rfl
   ·have hk:k=s.size:=by omega
    rw[e,Pl.qv9 _ fn k hk V,if_pos J]
  have U:Hid (∀w1,¬fn<k->(k=s.size\/∃q:k<s.size,Pl.among s[k] Pl.qag=true)->w1=wr->WdAt w.heap.size w w1 s (.slice ao acc.length cap) acc (k+1) (k+1)):=by
   rintro w1 J hc rfl;have e:=H.out.eq Z;refine⟨H.out.own,H.out.below,yg _,by omega,fun h2=>?_,fun h2=>?_⟩
   ·rcases hc with hc | ⟨q,hc⟩
    ·omega
    ·rw[e,Pl.qpl _ fn k _ (qe5 s k q) hc V,if_neg J]
   ·have hk:k=s.size:=by omega
    rw[e,Pl.qv9 _ fn k hk V,if_neg J,yw]
  by_cases y:k=s.size\/∃q:k<s.size,Pl.among s[k] Pl.qag=true
  rotate_left
  ·have J:k<s.size:=by
    rcases Nat.lt_or_ge k s.size with q|q
    ·exact q
    ·exact absurd (.inl (by omega)) y
   have hc:Pl.among s[k] Pl.qag=false:=ye.2 (fun z=>y (.inr ⟨J,z⟩));have O:(k:Int)<(s.size:Int):=by omega
   have He:((k:Int)==(s.size:Int))=false:=by rw[yf];omega
   have HN:Hid (WdAt w.heap.size w wr s (.slice ao acc.length cap) acc fn (k+1)):=
    ⟨H.out.own,H.out.below,by omega,by omega,fun h2=>(H.out.eq Z).trans (by rw[Pl.q31 _ fn k _ (qe5 s k J) hc V]),fun h2=>by omega⟩
   clear H HP U y;go_wp2_with (go_at_call 80;refine cm (qed s[k] _ Pl.qag _ rfl (by decide)) ?_;rw[hc])
   go_roundw
   case rel=>exact⟨k+1,fn,acc,by omega,by go_num,rfl,HN⟩
   case measure=>simp[intOf];omega
  have T:=(show Hid (qgk w.heap.size wr (.slice ao acc.length cap) acc)from H.out.own);have X:=(show Hid (zW w wr)from H.out.below);clear H;by_cases hq:k=s.size
  ·subst hq
   have He:((s.size:Int)==(s.size:Int))=true:=by rw[yF]
   by_cases J:fn<s.size
   ·have O:(s.size:Int) > (fn:Int):=by omega
    go_wp2_with (first|(at_builtin;refine wpList_append_own _ rfl _ _ 35 rfl w.heap.size 9 i0 (zS) 1 16 underlying35 hi Hb Hc he rfl (by decide) _ _ _ rfl (World.ownsRow.alloc T.out _) (zO wr.heap.size 0) 1 1 [.string (s.extract fn s.size)] rfl rfl (qcn _ _ _) (by intro u hu;simp at hu;subst hu;rfl) (by unfold maxLen;omega) (by omega) (by simp;omega) ?_))
    ·intro v' w1 D I _
     have Y:zW w w1:=qi8 (Below.alloc X.out hz _) (World.ownsRow.alloc T.out _) I (by simp;omega);have HW:=zH (HP.out v' w1 J y D Y);clear HP U y D Y I;go_wp2
     go_roundw
     case rel=>exact⟨s.size+1,s.size+1,_,by omega,by go_num,by go_num,HW⟩
     case measure=>simp[intOf]
   ·have O:¬(s.size:Int) > (fn:Int):=by omega
    have HW:=zH (U.out wr J y rfl);clear HP U y;go_wp2
    go_roundw
    case rel=>exact⟨s.size+1,s.size+1,_,by omega,by go_num,by go_num,HW⟩
    case measure=>simp[intOf]
  ·obtain⟨hg,hc⟩:=y.resolve_left hq
   have hf:(k:Int)<(s.size:Int):=by omega
   have He:((k:Int)==(s.size:Int))=false:=by rw[yf];omega
   by_cases J:fn<k
   ·have O:(k:Int) > (fn:Int):=by omega
    go_wp2_with (first|(go_at_call 80;refine cm (qed s[k] _ Pl.qag _ rfl (by decide)) ?_;rw[hc])|(at_builtin;refine wpList_append_own _ rfl _ _ 35 rfl w.heap.size 9 i0 (zS) 1 16 underlying35 hi Hb Hc he rfl (by decide) _ _ _ rfl (World.ownsRow.alloc T.out _) (zO wr.heap.size 0) 1 1 [.string (s.extract fn k)] rfl rfl (qcn _ _ _) (by intro u hu;simp at hu;subst hu;rfl) (by unfold maxLen;omega) (by omega) (by simp;omega) ?_))
    ·intro v' w1 D I _
     have Y:zW w w1:=qi8 (Below.alloc X.out hz _) (World.ownsRow.alloc T.out _) I (by simp;omega);have HW:=zH (HP.out v' w1 J y D Y);clear HP U y D Y I;go_wp2
     go_roundw
     case rel=>exact⟨k+1,k+1,_,by omega,by go_num,by go_num,HW⟩
     case measure=>simp[intOf];omega
   ·have O:¬(k:Int) > (fn:Int):=by omega
    have HW:=zH (U.out wr J y rfl);clear HP U y;go_wp2_with (go_at_call 80;refine cm (qed s[k] _ Pl.qag _ rfl (by decide)) ?_;rw[hc])
    go_roundw
    case rel=>exact⟨k+1,k+1,_,by omega,by go_num,by go_num,HW⟩
    case measure=>simp[intOf];omega
namespace Pl
def qw7(l:zU):List zU:=if l=[46]then[]else Go.Lib.split l [46]
theorem q4n{l:zU}(h:(46:UInt8)∉l):Go.Lib.split l [46]=[l]:=by
 unfold Go.Lib.split;rw[Go.Lib.count_one,List.count_eq_zero.2 h];rfl
theorem q4o{a:zU}(r:zU)(h:(46:UInt8)∉a):Go.Lib.split (a++46::r) [46]=a::Go.Lib.split r [46]:=by
 have y:Go.Lib.index (a++46::r) [46]=(a.length:Int):=by
  refine Go.Lib.index_first (by simp) ?_ ?_
  ·unfold Go.Lib.occAt;rw[List.drop_left];simp[List.isPrefixOf]
  ·intro j z
   unfold Go.Lib.occAt;rw[List.drop_append_of_le_length (by omega),yo z,ye];intro q;simp only[xB,List.isPrefixOf,Bool.and_true,yF]at q;exact h (q▸List.getElem_mem z)
 unfold Go.Lib.split;rw[Go.Lib.count_one,Go.Lib.count_one,List.count_append,List.count_eq_zero.2 h,List.count_cons_self,xf]
 conv=>lhs;unfold Go.Lib.splitK
 rw[y,if_neg (by rw[yF];omega)];have e2:((a.length:Nat):Int).toNat=a.length:=by omega
 rw[e2,Nat.add_zero,List.take_left,show a.length+[(46:UInt8)].length=(a++[46]).length by simp,show a++46::r=(a++[46])++r by simp,List.drop_left]
theorem q3r(l:zU)(f k:Nat)(y:f<=k):l.drop f=cur l f k++l.drop k:=by
 unfold cur;have:=(yu (k - f) (l.drop f)).symm
 rwa [yD,show f+(k - f)=k by omega]at this
theorem qof(l:zU)(f k:Nat)(y:f<=k)(z:(46:UInt8)∉cur l f k)(h:l[k]?=some 46):Go.Lib.split (l.drop f) [46]=cur l f k::Go.Lib.split (l.drop (k+1)) [46]:=by
 obtain⟨D,I⟩:=yb.1 h;rw[q3r l f k y,yo D,I];exact q4o _ z
theorem qoe(l:zU)(f k:Nat)(y:f<=k)(z:(46:UInt8)∉cur l f k)(h:k=l.length):Go.Lib.split (l.drop f) [46]=[cur l f k]:=by
 rw[q3r l f k y,h,List.drop_length,yw,<-h];exact q4n z
end Pl
structure NmAt(B:Nat)(w wr:World)(s:zT)(v:Value)(acc:List zU)(f k:Nat):Prop where
 own:qgk B wr v acc
 below:Below B w wr
 fk:f<=k
 len:acc.length<=k
 al:acc.all qa4=true
 no:(46:UInt8)∉Pl.cur s.data.toList f k
 eq:k<=s.size->Go.Lib.split s.data.toList [46]=acc++Go.Lib.split (s.data.toList.drop f) [46]
 fin:s.size<k->Go.Lib.split s.data.toList [46]=acc
theorem qkw(s:zT)(w:World)(hs:s.size<=1000000) :
  zC 120 #[.string s] w fun e w'=>(∃v,e=.returned (.tuple #[v,.bool (isNm s.data.toList)])/\∃L,qgk w.heap.size w' v L/\(isNm s.data.toList=true->L=Pl.qw7 s.data.toList))/\zW w w':=by
 obtain⟨i0,hi,Hb,Hc,he⟩:=info_parts qxw;by_cases y:s.toList==[46]
 ·have HD:Hid (isNm s.data.toList=true/\Pl.qw7 s.data.toList=[]):=by
   rw[ByteArray.toList_eq,yF]at y;exact⟨by unfold isNm;rw[y];rfl,by unfold Pl.qw7;rw[if_pos y]⟩
  go_enter func120,ntmps120
  go_wp2
  go_ret2
  exact⟨⟨_,by rw[HD.out.1];rfl,[],World.ownsRow_nil _ _ _ _,fun _=>HD.out.2.symm⟩,xL _ _⟩
 have y:=ye.2 y;have HD:Hid (s.data.toList≠[46]):=by
  intro e;rw[ByteArray.toList_eq,e]at y;cases y
 go_enter func120,ntmps120
 go_wp2
 clear y;go_loopw [4,5,6,7] (fun v f i _ wr=>∃(k fn:Nat) (acc:List zU),k<=s.size+1/\i=zI k/\f=zI fn/\Hid (NmAt w.heap.size w wr s v acc fn k)) (fun _ _ i _ _=>s.size+1 - (intOf i).toNat)
 case atStart=>exact⟨0,0,[],yH _,rfl,rfl,⟨World.ownsRow_nil _ _ _ _,xL _ _,yg _,yg _,rfl,by rw[Pl.qri];exact List.not_mem_nil,fun _=>rfl,fun h=>absurd h (yZ _)⟩⟩
 case round=>
  obtain⟨k,fn,acc,hk,rfl,rfl,H⟩:=hrel;have hz:=H.out.below.size;have T:=H.out.fk;have hg:=H.out.len;obtain⟨ao,cap,rfl⟩:=H.out.own.slice;by_cases X:k<=s.size
  rotate_left
  ·have Y:¬(k:Int)<=(s.size:Int):=by omega
   have HE:Hid (isNm s.data.toList=decide ((acc.length:Int)<=4)/\acc=Pl.qw7 s.data.toList):=by
    have e:=H.out.fin (by omega);refine⟨?_,?_⟩
    ·rw[qve _ HD.out,e,H.out.al,Bool.and_true,xh,decide_eq_true_iff,decide_eq_true_iff];omega
    ·unfold Pl.qw7;rw[if_neg HD.out,e]
   go_wp2
   go_ret2
   exact⟨⟨_,by rw[HE.out.1];rfl,acc,H.out.own,fun _=>HE.out.2⟩,H.out.below⟩
  have Y:(k:Int)<=(s.size:Int):=by omega
  have HX:Hid (Pl.cur s.data.toList fn k=(s.extract fn k).data.toList):=by show _=_;rw[qco];rfl
  have V:Hid ((s.extract fn k).size<=1000000):=by
   show _<=_;rw[qco,qb1,yP,yM];have:s.data.toList.length=s.size:=rfl;omega
  have HP:Hid (∀(v':Value) (w1:World),(k=s.size\/∃q:k<s.size,s[k]=46)->qa4 (s.extract fn k).data.toList=true->w1.ownsRow w.heap.size 9 1 v' (acc.length+1) (qll acc++[.string (s.extract fn k)])->zW w w1->NmAt w.heap.size w w1 s v' (acc++[Pl.cur s.data.toList fn k]) (k+1) (k+1)):=by
   intro v' w1 hc I Z hb;have e:=H.out.eq X;refine⟨?_,hb,yg _,by rw[yJ];simp only[yK,yQ];omega,?_,by rw[Pl.qri];exact List.not_mem_nil,fun h2=>?_,fun h2=>?_⟩
   ·show w1.ownsRow _ _ _ _ _ _
    rw[qod,yJ];unfold Pl.cur;rw[<-qco];exact Z
   ·rw[List.all_append,H.out.al,HX.out]
    show(true && (qa4 (s.extract fn k).data.toList && true))=true;rw[I];rfl
   ·rcases hc with hc | ⟨q,hc⟩
    ·omega
    ·rw[e,Pl.qof _ fn k T H.out.no (by rw[qe5 s k q,hc]),yq];rfl
   ·have hk:k=s.size:=by omega
    rw[e,Pl.qoe _ fn k T H.out.no hk]
  have HF:Hid ((k=s.size\/∃q:k<s.size,s[k]=46)->qa4 (s.extract fn k).data.toList=false->isNm s.data.toList=false):=by
   intro hc I;have e:=H.out.eq X;have He:Pl.cur s.data.toList fn k∈Go.Lib.split s.data.toList [46]:=by
    rw[e];refine List.mem_append_right _ ?_;rcases hc with hc|⟨q,hc⟩
    ·rw[Pl.qoe _ fn k T H.out.no hc];exact xo
    ·rw[Pl.qof _ fn k T H.out.no (by rw[qe5 s k q,hc])];exact xo
   rw[qve _ HD.out,ye];intro q;rw[yL]at q;have:=yW.1 q.2 _ He;rw[HX.out,I]at this;cases this
  have J:=(show Hid (qgk w.heap.size wr (.slice ao acc.length cap) acc)from H.out.own);have O:=(show Hid (zW w wr)from H.out.below);by_cases hq:k=s.size
  ·subst hq
   have hf:((s.size:Int)==(s.size:Int))=true:=by rw[yF]
   cases I:qa4 (s.extract fn s.size).data.toList
   ·have HV:=zH (HF.out (.inl rfl) I)
    clear H HP HF HX;go_wp2_with (go_at_call 52;refine cm (qf4 _ _ V.out) ?_;rw[I])
    go_ret2
    exact⟨⟨_,by rw[HV.out];rfl,[],World.ownsRow_nil _ _ _ _,fun q=>by rw[HV.out]at q;cases q⟩,O.out⟩
   ·clear H HF HX
    go_wp2_with (first|(go_at_call 52;refine cm (qf4 _ _ V.out) ?_;rw[I])|(at_builtin;refine wpList_append_own _ rfl _ _ 35 rfl w.heap.size 9 i0 (zS) 1 16 underlying35 hi Hb Hc he rfl (by decide) _ _ _ rfl (World.ownsRow.alloc J.out _) (zO wr.heap.size 0) 1 1 [.string (s.extract fn s.size)] rfl rfl (qcn _ _ _) (by intro u hu;simp at hu;subst hu;rfl) (by unfold maxLen;omega) (by omega) (by simp;omega) ?_))
    ·intro v' w1 z D _
     have U:zW w w1:=qi8 (Below.alloc O.out hz _) (World.ownsRow.alloc J.out _) D (by simp;omega);have HW:=zH (HP.out v' w1 (.inl trivial) I z U);clear HP z U D I;go_wp2
     go_roundw
     case rel=>exact⟨s.size+1,s.size+1,_,by omega,by go_num,by go_num,HW⟩
     case measure=>simp[intOf]
  ·have ha:k<s.size:=by omega
   have Hf:(k:Int)<(s.size:Int):=by omega
   have hf:((k:Int)==(s.size:Int))=false:=by rw[yf];omega
   by_cases hc:s[k]=46
   ·have Ha:((s[k].toNat:Int)==46)=true:=by rw[hc];rfl
    cases I:qa4 (s.extract fn k).data.toList
    ·have HV:=zH (HF.out (.inr ⟨ha,hc⟩) I)
     clear H HP HF HX hc;go_wp2_with (go_at_call 52;refine cm (qf4 _ _ V.out) ?_;rw[I])
     go_ret2
     exact⟨⟨_,by rw[HV.out];rfl,[],World.ownsRow_nil _ _ _ _,fun q=>by rw[HV.out]at q;cases q⟩,O.out⟩
    ·have HP:=zH (fun v' w1=>HP.out v' w1 (.inr ⟨ha,hc⟩) I)
     clear H HF HX hc;go_wp2_with (first|(go_at_call 52;refine cm (qf4 _ _ V.out) ?_;rw[I])|(at_builtin;refine wpList_append_own _ rfl _ _ 35 rfl w.heap.size 9 i0 (zS) 1 16 underlying35 hi Hb Hc he rfl (by decide) _ _ _ rfl (World.ownsRow.alloc J.out _) (zO wr.heap.size 0) 1 1 [.string (s.extract fn k)] rfl rfl (qcn _ _ _) (by intro u hu;simp at hu;subst hu;rfl) (by unfold maxLen;omega) (by omega) (by simp;omega) ?_))
     ·intro v' w1 z D _
      have U:zW w w1:=qi8 (Below.alloc O.out hz _) (World.ownsRow.alloc J.out _) D (by simp;omega);have HW:=zH (HP.out v' w1 z U);clear HP z U D I;go_wp2
      go_roundw
      case rel=>exact⟨k+1,k+1,_,by omega,by go_num,by go_num,HW⟩
      case measure=>simp[intOf];omega
   ·have Ha:((s[k].toNat:Int)==46)=false:=by
     have:=qil s[k] 46 (by decide);rw[yf.2 (show s[k]≠UInt8.ofNat 46 from hc)]at this;exact this
    have HN:Hid (NmAt w.heap.size w wr s (.slice ao acc.length cap) acc fn (k+1)):=
     ⟨H.out.own,H.out.below,by omega,by omega,H.out.al,by
      rw[Pl.q3t _ fn k _ T (qe5 s k ha)];intro q;rcases yn.1 q with q|q
      ·exact H.out.no q
      ·exact hc (yv.1 q).symm,fun _=>H.out.eq X,fun h2=>by omega⟩
    clear H HP HF HX hc;go_wp2
    go_roundw
    case rel=>exact⟨k+1,fn,acc,by omega,by go_num,rfl,HN⟩
    case measure=>simp[intOf];omega
namespace Pl
theorem q3h(l:zU):(qdr l [61] 0=-1/\among 61 l=false)\/(0<=qdr l [61] 0/\among 61 l=true):=by
 by_cases h:among 61 l=true
 ·right
  refine⟨?_,h⟩;unfold qdr;rw[List.drop_zero];rcases Go.Lib.index_spec l [61]with⟨_,q⟩|⟨i,q,_⟩
  ·obtain⟨i,y⟩:=xj (qho.1 h)
   obtain⟨z,D⟩:=yb.1 y;have:=q i (by omega);unfold Go.Lib.occAt at this;rw[yo z,D]at this;simp[List.isPrefixOf]at this
  ·rw[q,if_neg (by omega)];omega
 ·left
  have h:=ye.2 h;refine⟨qx9 l [61] 0 (yH _) (fun j _ I=>?_),h⟩;unfold Go.Lib.occAt;rw[ye];intro q;have I:j<l.length:=by simp only[yK,yQ]at I;omega
  rw[yo I]at q;simp only[List.isPrefixOf,Bool.and_true,yF]at q;rw[qho.2 (q▸List.getElem_mem I)]at h;cases h
theorem q44(c:zT)(h:c.size<2\/∃q:0<c.size,c[c.size - 1]≠61):qdc c.data.toList=⟨8,4,[],[],[]⟩:=by
 unfold qdc;refine if_pos ?_;have z:c.data.toList.length=c.size:=rfl;rw[ye];intro q;unfold Go.Lib.hasSuffix at q;have q:=List.isSuffixOf_iff_suffix.1 q;obtain⟨t,D⟩:=q;have y:=yE List.length D;rw[yJ,yM]at y;simp only[yK,yQ]at y;rcases h with h|⟨I,h⟩
 ·omega
 ·refine h ?_
  have e:(c.data.toList.drop 1)[c.size - 2]?=some 61:=by
   rw[<-D,yt (by omega),show c.size - 2 - t.length=0 by omega];rfl
  rw[List.getElem?_drop,show 1+(c.size - 2)=c.size - 1 by omega,qe5 c _ (by omega)]at e;exact yk e
def dlOf:List zU->Tg
 |[a,b]=>if qeb a=true/\qeb b=true then⟨8,0,[],a,b⟩else⟨8,4,[],[],[]⟩
 |_=>⟨8,4,[],[],[]⟩
theorem q0s(c:zT)(y:2<=c.size)(h:c[c.size - 1]=61):qdc c.data.toList=dlOf (qfy (c.extract 1 (c.size - 1)).data.toList):=by
 have z:c.data.toList.length=c.size:=rfl;have e:c.data.toList.drop 1=(c.extract 1 (c.size - 1)).data.toList++[61]:=by
  rw[qco];show _=(c.data.toList.drop 1).take (c.size - 1 - 1)++[61];have D:(c.data.toList.drop 1).length=c.size - 1:=by rw[yM,z]
  have:=(yu (c.size - 2) (c.data.toList.drop 1)).symm;rw[show c.size - 1 - 1=c.size - 2 by omega];refine this.trans ?_
  congr 1
  rw[yD,show 1+(c.size - 2)=c.size - 1 by omega,yo (by omega:c.size - 1<c.data.toList.length)];have:c.data.toList[c.size - 1]'(by omega)=61:=h;rw[this,show c.size - 1+1=c.data.toList.length by omega,List.drop_length]
 unfold qdc;have I:Go.Lib.hasSuffix (c.data.toList.drop 1) [61]=true:=by
  unfold Go.Lib.hasSuffix;rw[e];exact List.isSuffixOf_iff_suffix.2 (List.suffix_append _ _)
 have J:Go.Lib.trimSuffix (c.data.toList.drop 1) [61]=(c.extract 1 (c.size - 1)).data.toList:=by
  unfold Go.Lib.trimSuffix;rw[I,if_pos rfl,e,yJ];simp
 rw[if_neg (by rw[I];simp),J];generalize qfy (c.extract 1 (c.size - 1)).data.toList=L
 match L with
 |[]=>rfl
 |[_]=>rfl
 |[_,_]=>rfl
 |_::_::_::_=>rfl
theorem qio:∀(l c:zU),∀x∈qbo c l,x.length<=c.length+l.length
 |[],c,x,hx=>by
   unfold qbo at hx;split at hx
   ·cases hx
   ·rw[yv.1 hx];exact Nat.le_add_right _ _
 |b::l,c,x,hx=>by
   unfold qbo at hx;rw[yK];split at hx
   ·split at hx
    ·have:=qio l [] x hx
     simp only[yQ]at this;omega
    ·rcases xt.1 hx with rfl | hx
     ·omega
     ·have:=qio l [] x hx
      simp only[yQ]at this;omega
   ·have:=qio l (c++[b]) x hx
    rw[yJ]at this;simp only[yK,yQ]at this;omega
end Pl
theorem q1y(s:zT)(w:World)(y:s.size<=1000000) :
  zC 81 #[.string s,.string ⟨#[61]⟩,zI 0] w (zQ (zI (Pl.qdr s.data.toList [61] 0)) w):=
 qtl s ⟨#[61]⟩ 0 w y (by decide) (yH _)
theorem qgk.cell{B:Nat}{w:World}{L:List zU}{g cap:Nat}(h:qgk B w (zF g L.length cap) L)(j:Nat)(l:zU)(y:L[j]?=some l):w.cell? (zO g j)=some (.string ⟨l.toArray⟩):=by
 have z:=(yb.1 y).1;rw[World.ownsRow.cellAt h j (by rw[Nat.mul_one];exact z)];unfold qll;rw[yz,y];rfl
def zdd(r:Pl.Tg):Value:=.tuple #[.string ⟨r.op.toArray⟩,.string ⟨r.cl.toArray⟩,.bool (decide (r.slip=0))]
theorem q6c(s:zT)(w:World)(hs:s.size<=1000000) :
  zC 87 #[.string s] w (zR (zdd (Pl.qdc s.data.toList)) w):=by
 by_cases hb:s.size<2\/∃q:0<s.size,s[s.size - 1]≠61
 ·rw[Pl.q44 s hb]
  by_cases h2:s.size<2
  ·have O:(s.size:Int)<2:=by omega
   clear hb;go_enter func87,ntmps87
   go_wp2
   (try simp only[Exit.inBlock,Exit.then]);refine bodyPost_ret (results_tmp3 rfl _ _ _) rfl ?_
   exact⟨rfl,xL _ _⟩
  ·obtain⟨h0,hc⟩:=hb.resolve_left h2
   have O:¬(s.size:Int)<2:=by omega
   have h3:(0:Int)<=(s.size:Int) - 1:=by omega
   have hq:((s[s.size - 1].toNat:Int)==61)=false:=by
    have:=qil s[s.size - 1] 61 (by decide);rw[yf.2 (show s[s.size - 1]≠UInt8.ofNat 61 from hc)]at this;exact this
   have hR:=zH hc;clear hb;go_enter func87,ntmps87
   go_wp2
   (try simp only[Exit.inBlock,Exit.then]);refine bodyPost_ret (results_tmp3 rfl _ _ _) rfl ?_
   exact⟨rfl,xL _ _⟩
 have h2:2<=s.size:=by
  rcases Nat.lt_or_ge s.size 2 with q|q
  ·exact absurd (.inl q) hb
  ·exact q
 have hi:s.size - 1<s.size:=Nat.sub_lt (yi (by decide) h2) (by decide);have hc:s[s.size - 1]'hi=61:=by
  by_cases q:s[s.size - 1]'hi=61
  ·exact q
  ·exact absurd (.inr ⟨by omega,q⟩) hb
 clear hb;have HR:=zH (Pl.q0s s h2 hc);have O:¬(s.size:Int)<2:=by omega
 have h3:(0:Int)<=(s.size:Int) - 1:=by omega
 have h4:(1:Int)<=(s.size:Int) - 1:=by omega
 have hq:(((s[s.size - 1]'hi).toNat:Int)==61)=true:=by rw[hc];rfl
 have hX:(s.extract 1 (s.size - 1)).size<=s.size:=by
  rw[qco,qb1,yP,yM];have:s.data.toList.length=s.size:=rfl;omega
 have hW:=q6x (s.extract 1 (s.size - 1)) w (by omega);have z:Hid (∀x∈Pl.qfy (s.extract 1 (s.size - 1)).data.toList,x.length<=1000000):=fun x hx=>by
  have:=Pl.qio _ [] x hx;have e:(s.extract 1 (s.size - 1)).data.toList.length=(s.extract 1 (s.size - 1)).size:=rfl;rw[e]at this;simp only[yQ]at this;omega
 generalize Pl.qfy (s.extract 1 (s.size - 1)).data.toList=L at HR hW z;have HW:=zH hW;clear hW hX;rw[HR.out];clear HR;have HC:=zH hc;clear hc;by_cases T:L.length=2
 rotate_left
 ·have HD:Hid (Pl.dlOf L=⟨8,4,[],[],[]⟩):=by
   show _=_
   match L,T with
   |[],_=>rfl
   |[_],_=>rfl
   |[_,_],h=>exact absurd rfl h
   |_::_::_::_,_=>rfl
  have X:((L.length:Int)==2)=false:=by rw[yf];omega
  go_enter func87,ntmps87
  go_wp2_with (go_at_call 121;refine xQ HW.out ?_;rintro e w1 ⟨⟨v,rfl,hO⟩,hB⟩;obtain⟨ao,cap,rfl⟩:=hO.slice)
  (try simp only[Exit.inBlock,Exit.then]);refine bodyPost_ret (results_tmp3 rfl _ _ _) rfl ?_
  exact⟨by rw[HD.out];rfl,hB⟩
 match L,T with
 |[a,b],_=>
 have ha:=z.out a (by simp);have hb:=z.out b (by simp);clear z;obtain⟨A,hA⟩:∃A:zT,A=⟨a.toArray⟩:=⟨_,rfl⟩;obtain⟨D,hD⟩:∃A:zT,A=⟨b.toArray⟩:=⟨_,rfl⟩;have Y:A.size=a.length:=by rw[hA];exact qb1 a
 have Z:D.size=b.length:=by rw[hD];exact qb1 b
 have zA:A.size<=1000000:=by omega
 have zD:D.size<=1000000:=by omega
 have I:A.data.toList=a:=by rw[hA]
 have J:D.data.toList=b:=by rw[hD]
 have y:Hid (∀w1 g cap,qgk w.heap.size w1 (zF g 2 cap) [a,b]->w1.cell? (zO g 0)=some (.string A)/\w1.cell? (zO g 1)=some (.string D)):=by
  intro w1 g cap h;rw[hA,hD];exact⟨h.cell 0 a rfl,h.cell 1 b rfl⟩
 have HV:Hid (zdd (Pl.dlOf [a,b])=if(a.length<=3/\Pl.among 61 a=false)/\b.length<=3/\Pl.among 61 b=false then .tuple #[.string A,.string D,.bool true]else .tuple #[zS,zS,.bool false]):=by
  show _=_;rw[hA,hD];unfold Pl.dlOf Pl.qeb;simp only[yL,yN,Bool.not_eq_true'];split<;>rfl
 have oa:=Pl.q3h A.data.toList;have ob:=Pl.q3h D.data.toList;rw[I]at oa;rw[J]at ob;rw[<-I]at oa;rw[<-J]at ob;have U:Pl.among 61 A.data.toList=Pl.among 61 a:=by rw[I]
 have V:Pl.among 61 D.data.toList=Pl.among 61 b:=by rw[J]
 rw[U]at oa;rw[V]at ob;clear hA hD I J ha hb U V;rw[HV.out];by_cases a3:a.length<=3
 rotate_left
 ·have q1:(A.size:Int) > 3:=by omega
  rw[if_neg (fun q=>a3 q.1.1)];clear HV oa ob;go_enter func87,ntmps87
  go_wp2_with (go_at_call 121;refine xQ HW.out ?_;rintro e w1 ⟨⟨v,rfl,hO⟩,hB⟩;obtain⟨g,cap,rfl,_,_⟩:=qai hO (Nat.zero_lt_succ _);obtain⟨c0,c1⟩:=y.out w1 g cap hO)
  (try simp only[Exit.inBlock,Exit.then]);refine bodyPost_ret (results_tmp3 rfl _ _ _) rfl ?_
  exact⟨rfl,hB⟩
 have q1:¬(A.size:Int) > 3:=by omega
 by_cases b3:b.length<=3
 rotate_left
 ·have q2:(D.size:Int) > 3:=by omega
  rw[if_neg (fun q=>b3 q.2.1)];clear HV oa ob;go_enter func87,ntmps87
  go_wp2_with (go_at_call 121;refine xQ HW.out ?_;rintro e w1 ⟨⟨v,rfl,hO⟩,hB⟩;obtain⟨g,cap,rfl,_,_⟩:=qai hO (Nat.zero_lt_succ _);obtain⟨c0,c1⟩:=y.out w1 g cap hO)
  (try simp only[Exit.inBlock,Exit.then]);refine bodyPost_ret (results_tmp3 rfl _ _ _) rfl ?_
  exact⟨rfl,hB⟩
 have q2:¬(D.size:Int) > 3:=by omega
 rcases oa with⟨q3,oa⟩|⟨q3,oa⟩
 rotate_left
 ·rw[if_neg (fun q=>by rw[oa]at q;exact absurd q.1.2 (by simp))]
  have q3':Pl.qdr A.data.toList [61] 0≥0:=q3;clear q3;clear HV ob;go_enter func87,ntmps87
  go_wp2_with (first|(go_at_call 121;refine xQ HW.out ?_;rintro e w1 ⟨⟨v,rfl,hO⟩,hB⟩;obtain⟨g,cap,rfl,_,_⟩:=qai hO (Nat.zero_lt_succ _);obtain⟨c0,c1⟩:=y.out w1 g cap hO)|(go_at_call 81;refine cm (q1y _ _ (by first|exact zA|exact zD)) ?_))
  (try simp only[Exit.inBlock,Exit.then]);refine bodyPost_ret (results_tmp3 rfl _ _ _) rfl ?_
  exact⟨rfl,hB⟩
 have q3':¬Pl.qdr A.data.toList [61] 0≥0:=by omega
 clear q3;rcases ob with⟨q4,ob⟩|⟨q4,ob⟩
 rotate_left
 ·rw[if_neg (fun q=>by rw[ob]at q;exact absurd q.2.2 (by simp))]
  have q4':Pl.qdr D.data.toList [61] 0≥0:=q4;clear q4;clear HV;go_enter func87,ntmps87
  go_wp2_with (first|(go_at_call 121;refine xQ HW.out ?_;rintro e w1 ⟨⟨v,rfl,hO⟩,hB⟩;obtain⟨g,cap,rfl,_,_⟩:=qai hO (Nat.zero_lt_succ _);obtain⟨c0,c1⟩:=y.out w1 g cap hO)|(go_at_call 81;refine cm (q1y _ _ (by first|exact zA|exact zD)) ?_))
  (try simp only[Exit.inBlock,Exit.then]);refine bodyPost_ret (results_tmp3 rfl _ _ _) rfl ?_
  exact⟨rfl,hB⟩
 rw[if_pos ⟨⟨a3,oa⟩,b3,ob⟩];have q4':¬Pl.qdr D.data.toList [61] 0≥0:=by omega
 clear q4;clear HV;go_enter func87,ntmps87
 go_wp2_with (first|(go_at_call 121;refine xQ HW.out ?_;rintro e w1 ⟨⟨v,rfl,hO⟩,hB⟩;obtain⟨g,cap,rfl,_,_⟩:=qai hO (Nat.zero_lt_succ _);obtain⟨c0,c1⟩:=y.out w1 g cap hO)|(go_at_call 81;refine cm (q1y _ _ (by first|exact zA|exact zD)) ?_))
 go_region
 all_goals
  go_wp2
  (try simp only[Exit.inBlock,Exit.then]);refine bodyPost_ret (results_tmp3 rfl _ _ _) rfl ?_
  exact⟨rfl,by first|exact hB|exact hB.drew|exact Below.drewN hB _⟩
end Go.Proofs.YtfkhljmiehdgmaaGreatDoor
