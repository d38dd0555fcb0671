/-
  Steps of the proof.
-/
import Derived.Test.YtfkhljmiehdgmaaGreatDoorCuAF
import Derived.Lib.IndexMore
import Derived.Lib.IndexLaws
import Derived.Deep.LoopGhost
set_option maxRecDepth 100000
set_option maxHeartbeats 40000000
namespace Go.Proofs.YtfkhljmiehdgmaaGreatDoor
open Go.RowKit Go.Proofs.Tryz Pl
theorem qhy(m:Int)(w:World) :
  zC 69 #[zI m] w (zQ (.bool (qca m)) w):=by
 have H:Hid (qca m=_):=show qca m=(m==21 || (m==22 || (m==23 || (m==29 || m==30))))from rfl;go_enter func69,ntmps69
 go_wp2
 all_goals
  go_ret
  exact⟨qas (by rw[H.out];first|(simp only[Bool.or_assoc])|(subst_vars;rfl)),rfl⟩
theorem qed(b:UInt8)(all:zT)(l:zU)(w:World)(y:all.data.toList=l)(z:l.length<=1000) :
  zC 80 #[zJ b.toNat,.string all] w (zQ (.bool (among b l)) w):=by
 rw[<-y];refine zat b all w ?_;have:all.data.toList.length=all.size:=rfl;rw[<-this,y];omega
theorem qlx(b c:UInt8)(h:((b.toNat:Int)==(c.toNat:Int))=true):b=c:=by rw[beq8,yF]at h;exact h
theorem qhx(b c:UInt8)(h:((b.toNat:Int)==(c.toNat:Int))=false):¬b=c:=by rw[beq8,yf]at h;exact h
theorem Pl.extract_drop(s:zT)(i:Nat):s.extract i s.size=⟨(s.data.toList.drop i).toArray⟩:=by
 apply xi;apply Array.ext';rw[ByteArray.data_extract,Array.toList_extract,xA,yp (by rw[yM];exact yg _)]
theorem Pl.extract_take(s:zT)(i:Nat):s.extract 0 i=⟨(s.data.toList.take i).toArray⟩:=by
 apply xi;apply Array.ext';rw[ByteArray.data_extract,Array.toList_extract,xA];simp
theorem zfa(s:zT)(k:Nat)(h:k<s.size):refR (s.data.toList.take (k+1)).reverse=(if s[k]=38 then true else if among s[k] qdj=true then refR (s.data.toList.take k).reverse else false):=by
 rw[qdn s k h,List.reverse_append];rfl
theorem qml(s:zT)(w:World)(D:s.size<=4000000000000000000) :
  zC 68 #[.string s] w (zQ (.bool (qie s.data.toList)) w):=by
 go_enter func68,ntmps68
 go_wp2
 go_loop [3] (fun i=>∃k:Nat,k<=s.size/\i=zI ((k:Int) - 1)/\qie s.data.toList=refR (s.data.toList.take k).reverse) (fun i=>(intOf i+1).toNat)
 case atStart=>exact⟨s.size,yg _,by first|rfl|go_num,by rw[qeo s _ (yg _)];rfl⟩
 case round=>
  obtain⟨k,I,rfl,J⟩:=hrel;have O:Hid (qie s.data.toList=refR (s.data.toList.take k).reverse):=J;clear J
  match k,I with
  |0,_=>
    go_wp2
    go_ret
    exact⟨qas (by rw[O.out];rfl),rfl⟩
  |k+1,I=>
    have y:k<s.size:=by omega
    have T:=zH (zfa s k y);have e1:(((k+1:Nat):Int) - 1)=(k:Int):=by omega
    rw[e1];have z:(k:Int)<(s.size:Int):=by omega
    go_wp2_with (go_at_call 80;refine cm (qed s[k] _ qdj _ rfl (by decide)) ?_)
    ·go_ret
     exact⟨qas (by rw[O.out,T.out,if_pos (qlx s[k] 38 ‹_›)]),rfl⟩
    ·have U:=qhx s[k] 38 ‹_›
     have V:among s[k] qdj=false:=by simpa using ‹(!among s[k] qdj)=true›
     go_ret
     exact⟨qas (by rw[O.out,T.out,if_neg U,V];rfl),rfl⟩
    ·have U:=qhx s[k] 38 ‹_›
     have V:among s[k] qdj=true:=by simpa using ‹(!among s[k] qdj)=false›
     go_round
     case rel=>exact⟨k,by omega,rfl,by rw[O.out,T.out,if_neg U,if_pos V]⟩
     case measure=>simp[intOf]
theorem zbj(s:zT)(w:World)(y:s.size<=4000000000000000000) :
  zC 168 #[.string s] w (zQ (.string ⟨(qce s.data.toList).toArray⟩) w):=by
 by_cases h:12<s.size
 ·have z:Hid (qce s.data.toList=s.data.toList.drop (s.size - 12)):=by show _=_;unfold qce;rw[if_pos (by show 12<s.data.toList.length;exact h)];rfl
  have D:(12:Int)<(s.size:Int):=by omega
  have I:(0:Int)<=(s.size:Int) - 12:=by omega
  go_enter func168,ntmps168
  go_wp2
  go_ret
  exact⟨qcl (by rw[z.out];exact extract_drop s _),rfl⟩
 ·have z:Hid (qce s.data.toList=s.data.toList):=by show _=_;unfold qce;rw[if_neg (by show ¬ 12<s.data.toList.length;exact h)]
  go_enter func168,ntmps168
  go_wp2
  go_ret
  exact⟨qcl (by rw[z.out]),rfl⟩
theorem q6d(s:zT)(w:World)(y:s.size<=4000000000000000000) :
  zC 212 #[.string s] w (zQ (.string ⟨(qfx s.data.toList).toArray⟩) w):=by
 by_cases h:9<s.size
 ·have z:Hid (qfx s.data.toList=s.data.toList.take 9):=by show _=_;unfold qfx;rw[if_pos (by show 9<s.data.toList.length;exact h)]
  have D:(9:Int)<(s.size:Int):=by omega
  go_enter func212,ntmps212
  go_wp2
  go_ret
  exact⟨qcl (by rw[z.out];exact extract_take s _),rfl⟩
 ·have z:Hid (qfx s.data.toList=s.data.toList):=by show _=_;unfold qfx;rw[if_neg (by show ¬ 9<s.data.toList.length;exact h)]
  go_enter func212,ntmps212
  go_wp2
  go_ret
  exact⟨qcl (by rw[z.out]),rfl⟩
theorem zc5(css:Bool)(s:zT)(k:Nat)(h:k<s.size):qdz css (s.data.toList.take (k+1))=qcp css (qdz css (s.data.toList.take k)) s[k]:=by
 rw[qdn s k h];simp[qdz]
theorem qvm(css:Bool)(l:Int)(b:UInt8)(y:0<=l)(z:l<=6):0<=qcp css l b/\qcp css l b<=6:=by
 unfold qcp
 repeat' split
 all_goals omega
theorem q1w(css:Bool)(l:zU):0<=qdz css l/\qdz css l<=6:=by
 unfold qdz;have:∀(l:zU) (x:Int),0<=x->x<=6->0<=l.foldl (qcp css) x/\l.foldl (qcp css) x<=6:=by
  intro l
  induction l with
  |nil=>intro x y z;exact⟨y,z⟩
  |cons b l ih=>
    intro x y z;have:=qvm css x b y z;exact ih _ this.1 this.2
 exact this l 0 (by omega) (by omega)
theorem qnx(s:zT)(css:Bool)(w:World)(O:s.size<=4000000000000000000) :
  zC 70 #[.string s,.bool css] w (zQ (zI (qdz css s.data.toList)) w):=by
 go_enter func70,ntmps70
 go_wp2
 go_loop [5,6] (fun l i=>∃k:Nat,k<=s.size/\i=zI k/\l=zI (qdz css (s.data.toList.take k))) (fun _ i=>s.size - (intOf i).toNat)
 case atStart=>exact⟨0,yH _,rfl,rfl⟩
 case round=>
  obtain⟨k,T,rfl,rfl⟩:=hrel;by_cases y:k<s.size
  ·have U:=zH (zc5 css s k y)
   have V:=q1w css (s.data.toList.take k);generalize qdz css (s.data.toList.take k)=l at U V |-;obtain⟨D,I⟩:=V;by_cases X:among s[k] qa1=true
   ·by_cases Y:l=1
    ·subst Y
     cases css
     ·go_wp2_with (go_at_call 80;refine cm (qed s[k] _ qa1 _ rfl (by decide)) ?_)
      all_goals
       go_round
       case rel=>exact⟨k+1,by omega,by go_num,by rw[U.out];unfold qcp;first|(have e:=qlx s[k] 120 ‹_›;rw[e];rfl)|(have e:=qlx s[k] 117 ‹_›;rw[e];rfl)|(have n1:=qhx s[k] 120 ‹_›;have n2:=qhx s[k] 117 ‹_›;simp[n1,n2])⟩
       case measure=>simp[intOf];omega
     ·go_wp2_with (go_at_call 80;refine cm (qed s[k] _ qa1 _ rfl (by decide)) ?_)
      all_goals
       go_round
       case rel=>exact⟨k+1,by omega,by go_num,by rw[U.out];unfold qcp;simp[X]⟩
       case measure=>simp[intOf];omega
    ·have z:(l==1)=false:=yf.2 Y
     by_cases Z:1<l
     ·go_wp2_with (go_at_call 80;refine cm (qed s[k] _ qa1 _ rfl (by decide)) ?_)
      all_goals
       go_round
       case rel=>exact⟨k+1,by omega,by go_num,by rw[U.out];unfold qcp;rw[if_neg Y,if_pos ⟨Z,X⟩];first|(rw[if_pos (yF.1 ‹(l - 1==1)=true›)])|(rw[if_neg (yf.1 ‹(l - 1==1)=false›)])⟩
       case measure=>simp[intOf];omega
     ·have J:decide (1<l)=false:=yx Z
      go_wp2_with (go_at_call 80;refine cm (qed s[k] _ qa1 _ rfl (by decide)) ?_)
      all_goals
       go_round
       case rel=>exact⟨k+1,by omega,by go_num,by rw[U.out];unfold qcp;rw[if_neg Y,if_neg (fun q=>absurd q.1 (by omega))];first|(rw[if_pos (qlx s[k] 92 ‹_›)])|(rw[if_neg (qhx s[k] 92 ‹_›)])⟩
       case measure=>simp[intOf];omega
   ·have X:=ye.2 X
    by_cases Y:l=1
    ·subst Y
     cases css
     ·go_wp2_with (go_at_call 80;refine cm (qed s[k] _ qa1 _ rfl (by decide)) ?_)
      all_goals
       go_round
       case rel=>exact⟨k+1,by omega,by go_num,by rw[U.out];unfold qcp;first|(have e:=qlx s[k] 120 ‹_›;rw[e];rfl)|(have e:=qlx s[k] 117 ‹_›;rw[e];rfl)|(have n1:=qhx s[k] 120 ‹_›;have n2:=qhx s[k] 117 ‹_›;simp[n1,n2])⟩
       case measure=>simp[intOf];omega
     ·go_wp2_with (go_at_call 80;refine cm (qed s[k] _ qa1 _ rfl (by decide)) ?_)
      all_goals
       go_round
       case rel=>exact⟨k+1,by omega,by go_num,by rw[U.out];unfold qcp;simp[X]⟩
       case measure=>simp[intOf];omega
    ·have z:(l==1)=false:=yf.2 Y
     go_wp2_with (go_at_call 80;refine cm (qed s[k] _ qa1 _ rfl (by decide)) ?_)
     all_goals
      go_round
      case rel=>exact⟨k+1,by omega,by go_num,by rw[U.out];unfold qcp;rw[if_neg Y,if_neg (fun q=>by rw[X]at q;cases q.2)];first|(rw[if_pos (qlx s[k] 92 ‹_›)])|(rw[if_neg (qhx s[k] 92 ‹_›)])⟩
      case measure=>simp[intOf];omega
  ·go_wp2
   go_ret
   exact⟨qal (by rw[qeo s k (by omega)]),rfl⟩
namespace Pl
def qdr(s x:zU)(a:Nat):Int:=if Go.Lib.index (s.drop a) x<0 then -1 else a+Go.Lib.index (s.drop a) x
theorem zd5(s x:zT)(k:Nat):Go.Lib.occAt s.data.toList x.data.toList k=((s.extract k (k+x.size)).toList==x.toList):=by
 have e1:(s.extract k (k+x.size)).toList=(s.data.toList.drop k).take x.size:=by
  rw[ByteArray.toList_eq,ByteArray.data_extract,Array.toList_extract,xA]
  congr 1;omega
 rw[e1,ByteArray.toList_eq,xh,yF];unfold Go.Lib.occAt;rw[List.isPrefixOf_iff_prefix,List.prefix_iff_eq_take];exact⟨fun q=>q.symm,fun q=>q.symm⟩
theorem qux(s x:zU)(a j:Nat):Go.Lib.occAt (s.drop a) x j=Go.Lib.occAt s x (a+j):=by
 unfold Go.Lib.occAt;rw[yD]
theorem zb6(s x:zU)(j:Nat)(h:s.length<j+x.length)(y:j<=s.length):Go.Lib.occAt s x j=false:=by
 unfold Go.Lib.occAt;rw[ye];intro q;have:=(List.isPrefixOf_iff_prefix.1 q).length_le;rw[yM]at this;omega
theorem zcz(s x:zU)(a k:Nat)(y:a<=k)(z:k<=s.length)(D:∀j,a<=j->j<k->Go.Lib.occAt s x j=false)(h:Go.Lib.occAt s x k=true):qdr s x a=k:=by
 have e:Go.Lib.index (s.drop a) x=((k - a:Nat):Int):=Go.Lib.index_first (by rw[yM];omega) (by rw[qux];rwa [Nat.add_sub_cancel' y]) (fun j I=>by rw[qux];exact D _ (by omega) (by omega));unfold qdr;rw[e,if_neg (by omega)];omega
theorem qx9(s x:zU)(a:Nat)(y:a<=s.length)(z:∀j,a<=j->j+x.length<=s.length->Go.Lib.occAt s x j=false):qdr s x a=-1:=by
 have e:Go.Lib.index (s.drop a) x=-1:=Go.Lib.index_none (fun j D=>by
  rw[qux];rw[yM]at D;by_cases q:a+j+x.length<=s.length
  ·exact z _ (by omega) q
  ·exact zb6 _ _ _ (by omega) (by omega))
 unfold qdr;rw[e,if_pos (by omega)]
end Pl
theorem qtl(s x:zT)(a:Nat)(w:World)(J:s.size<=1000000)(O:x.size<=1000000)(T:a<=s.size) :
  zC 81 #[.string s,.string x,zI a] w (zQ (zI (Pl.qdr s.data.toList x.data.toList a)) w):=by
 go_enter func81,ntmps81
 go_wp2
 go_loop [7] (fun i=>∃k:Nat,a<=k/\k<=s.size+1/\i=zI k/\Hid (∀j,a<=j->j<k->Go.Lib.occAt s.data.toList x.data.toList j=false)) (fun i=>s.size+1 - (intOf i).toNat)
 case atStart=>exact⟨a,yg _,by omega,rfl,fun j U V=>by omega⟩
 case round=>
  obtain⟨k,z,X,rfl,Y⟩:=hrel;by_cases I:k+x.size<=s.size
  ·have y:(k:Int)+(x.size:Int)<=(s.size:Int):=by omega
   by_cases Z:(s.extract k (k+x.size)).toList==x.toList
   ·have HF:=zH (Pl.zcz s.data.toList x.data.toList a k z (by show k<=s.size;omega) Y.out (by rw[Pl.zd5 s x k];exact Z))
    clear Y;go_wp2
    go_ret
    exact⟨by rw[HF.out];rfl,rfl⟩
   ·have Z:=ye.2 Z
    have D:Hid (∀j,a<=j->j<k+1->Go.Lib.occAt s.data.toList x.data.toList j=false):=by
     intro j U V;by_cases e:j=k
     ·subst e;rw[Pl.zd5 s x j];exact Z
     ·exact Y.out j U (by omega)
    clear Y;go_wp2
    go_round
    case rel=>exact⟨k+1,by omega,by omega,by go_num,D⟩
    case measure=>simp[intOf];omega
  ·have HF:=zH (Pl.qx9 s.data.toList x.data.toList a T (fun j U V=>Y.out j U (by have e1:s.data.toList.length=s.size:=rfl;have e2:x.data.toList.length=x.size:=rfl;omega)))
   clear Y;have y:decide ((k:Int)+(x.size:Int)<=(s.size:Int))=false:=by rw[yO];omega
   go_wp2
   go_ret
   exact⟨by rw[HF.out];rfl,rfl⟩
theorem qmx(b:UInt8):among b [97,98,99,100,101,102,103,104,105,106,107,108,109,110,111,112,113,114,115,116,117,118,119,120,121,122,48,49,50,51,52,53,54,55,56,57,95]=qc2 b:=by
 have:∀n∈List.range 256,among (UInt8.ofNat n) [97,98,99,100,101,102,103,104,105,106,107,108,109,110,111,112,113,114,115,116,117,118,119,120,121,122,48,49,50,51,52,53,54,55,56,57,95]=qc2 (UInt8.ofNat n):=by decide +kernel
 have:=this b.toNat (xg.2 b.toNat_lt)
 rwa [UInt8.ofNat_toNat]at this
theorem q98(s:zT)(f:UInt8->Bool)(k:Nat)(h:k<s.size):(s.data.toList.take (k+1)).all f=((s.data.toList.take k).all f && f s[k]):=by
 rw[qdn s k h,List.all_append];simp
theorem qrc(s:zT)(w:World)(D:s.size<=1000000000) :
  zC 52 #[.string s] w (zQ (.bool (qa4 s.data.toList)) w):=by
 go_enter func52,ntmps52
 go_wp2
 go_loop [3] (fun i=>∃k:Nat,k<=s.size/\i=zI k/\Hid ((s.data.toList.take k).all qc2=true)) (fun i=>s.size - (intOf i).toNat)
 case atStart=>exact⟨0,yH _,rfl,by show _=_;rfl⟩
 case round=>
  obtain⟨k,I,rfl,J⟩:=hrel;by_cases z:k<s.size
  ·have y:(k:Int)<(s.size:Int):=by omega
   have O:=zH (q98 s qc2 k z);by_cases T:qc2 s[k]=true
   ·go_wp2_with (go_at_call 80;refine cm (qed s[k] _ _ _ rfl (by decide)) ?_;rw[qmx,T])
    go_round
    case rel=>exact⟨k+1,by omega,by go_num,by show _=_;rw[O.out,J.out,T];rfl⟩
    case measure=>simp[intOf];omega
   ·have T:=ye.2 T
    have U:Hid (qa4 s.data.toList=false):=by
     show _=_;have:s.data.toList.all qc2=false:=by
      rw[ye];intro q;have:=yW.1 q s[k] (yl (qe5 s k z));rw[T]at this;cases this
     unfold qa4;rw[this];simp
    go_wp2_with (go_at_call 80;refine cm (qed s[k] _ _ _ rfl (by decide)) ?_;rw[qmx,T])
    go_ret
    exact⟨by rw[U.out];rfl,rfl⟩
  ·have y:decide ((k:Int)<(s.size:Int))=false:=by rw[yO];omega
   have V:s.data.toList.all qc2=true:=by have:=J.out;rwa [qeo s k (by omega)]at this
   have U:Hid (qa4 s.data.toList=(decide (1<=s.size) && decide (s.size<=8))):=by
    show _=_;unfold qa4;rw[V,Bool.and_true];have e:s.data.toList.length=s.size:=rfl;rw[e]
    congr 1
    cases h:s.data.toList with
    |nil=>rw[h]at e;simp at e;simp[<-e]
    |cons b l=>rw[h]at e;simp at e;simp;omega
   clear J V;by_cases X:1<=s.size
   ·by_cases Y:s.size<=8
    ·have q1:(s.size:Int)≥1:=by omega
     have q2:(s.size:Int)<=8:=by omega
     go_wp2
     go_ret
     exact⟨by rw[U.out,yV X,yV Y];rfl,rfl⟩
    ·have q1:(s.size:Int)≥1:=by omega
     have q2:decide ((s.size:Int)<=8)=false:=by rw[yO];omega
     go_wp2
     go_ret
     exact⟨by rw[U.out,yV X,yx Y];rfl,rfl⟩
   ·have q1:decide ((s.size:Int)≥1)=false:=by rw[yO];omega
    go_wp2
    go_ret
    exact⟨by rw[U.out,yx X];rfl,rfl⟩
theorem qf4(s:zT)(w:World)(y:s.size<=1000000) :
  zC 52 #[.string s] w (zQ (.bool (qa4 s.data.toList)) w):=qrc s w (by omega)
theorem zck(m:Int)(s:zT)(w:World)(D:s.size<=4000000000000000000) :
  zC 169 #[zI m,.string s] w (zQ (.string ⟨(kept m s.data.toList).toArray⟩) w):=by
 have J:=zH (fun w=>qhy m w);have O:=zH (fun w=>qnx s (qbg m) w D);have T:=zH (fun w=>qml s w D)
 have U:Hid (kept m s.data.toList=_):=show kept m s.data.toList=(if qca m=true then(if qdz (qbg m) s.data.toList=0 then[] else s.data.toList)
  else if qie s.data.toList=true then[38] else if m=1\/m=19 then[] else if 2<s.data.toList.length then s.data.toList.drop (s.data.toList.length - 2) else s.data.toList) from rfl
 have y:qbg m=decide (28<=m):=rfl;generalize qdz (qbg m) s.data.toList=l at O U;generalize qca m=I at J U;generalize qie s.data.toList=R at T U;rw[y]at O;clear y;cases I
 ·cases R
  ·by_cases V:m=1\/m=19
   ·have X:Hid (kept m s.data.toList=[]):=by show _=_;rw[U.out,if_neg (by simp),if_neg (by simp),if_pos V]
    clear U;rcases V with rfl|rfl
    all_goals
     go_enter func169,ntmps169
     go_wp2_with (first|(go_at_call 69;refine(J.out _).mono ?_;rintro e w' ⟨rfl,rfl⟩)|(go_at_call 68;refine(T.out _).mono ?_;rintro e w' ⟨rfl,rfl⟩))
     go_ret
     exact⟨qcl (by rw[X.out]),rfl⟩
   ·have m1:(m==1)=false:=yf.2 (fun q=>V (.inl q))
    have m2:(m==19)=false:=yf.2 (fun q=>V (.inr q));by_cases Y:2<s.size
    ·have X:Hid (kept m s.data.toList=s.data.toList.drop (s.size - 2)):=by show _=_;rw[U.out,if_neg (by simp),if_neg (by simp),if_neg V,if_pos (by show 2<s.data.toList.length;exact Y)];rfl
     have Z:(2:Int)<(s.size:Int):=by omega
     clear U V;go_enter func169,ntmps169
     go_wp2_with (first|(go_at_call 69;refine(J.out _).mono ?_;rintro e w' ⟨rfl,rfl⟩)|(go_at_call 68;refine(T.out _).mono ?_;rintro e w' ⟨rfl,rfl⟩))
     go_ret
     exact⟨qcl (by rw[X.out];exact extract_drop s _),rfl⟩
    ·have X:Hid (kept m s.data.toList=s.data.toList):=by show _=_;rw[U.out,if_neg (by simp),if_neg (by simp),if_neg V,if_neg (by show ¬ 2<s.data.toList.length;exact Y)]
     clear U V;go_enter func169,ntmps169
     go_wp2_with (first|(go_at_call 69;refine(J.out _).mono ?_;rintro e w' ⟨rfl,rfl⟩)|(go_at_call 68;refine(T.out _).mono ?_;rintro e w' ⟨rfl,rfl⟩))
     go_ret
     exact⟨qcl (by rw[X.out]),rfl⟩
  ·have X:Hid (kept m s.data.toList=[38]):=by show _=_;rw[U.out,if_neg (by simp),if_pos rfl]
   clear U;go_enter func169,ntmps169
   go_wp2_with (first|(go_at_call 69;refine(J.out _).mono ?_;rintro e w' ⟨rfl,rfl⟩)|(go_at_call 68;refine(T.out _).mono ?_;rintro e w' ⟨rfl,rfl⟩))
   go_ret
   exact⟨qcl (by rw[X.out]),rfl⟩
 ·by_cases hl:l=0
  ·have X:Hid (kept m s.data.toList=[]):=by show _=_;rw[U.out,if_pos rfl,if_pos hl]
   subst hl;clear U;go_enter func169,ntmps169
   go_wp2_with (first|(go_at_call 69;refine(J.out _).mono ?_;rintro e w' ⟨rfl,rfl⟩)|(go_at_call 70;refine(O.out _).mono ?_;rintro e w' ⟨rfl,rfl⟩))
   go_ret
   exact⟨qcl (by rw[X.out]),rfl⟩
  ·have X:Hid (kept m s.data.toList=s.data.toList):=by show _=_;rw[U.out,if_pos rfl,if_neg hl]
   have z:(l==0)=false:=yf.2 hl;clear U hl;go_enter func169,ntmps169
   go_wp2_with (first|(go_at_call 69;refine(J.out _).mono ?_;rintro e w' ⟨rfl,rfl⟩)|(go_at_call 70;refine(O.out _).mono ?_;rintro e w' ⟨rfl,rfl⟩))
   go_ret
   exact⟨qcl (by rw[X.out]),rfl⟩
theorem qul(f:Int)(b:UInt8)(w:World) :
  zC 173 #[zI f,zJ b.toNat] w (zQ (zI (qcw f b)) w):=by
 by_cases y:b=47
 ·subst y
  have T:Hid (qcw f 47=1):=by show _=_;unfold qcw;simp
  go_enter func173,ntmps173
  go_wp2
  go_ret
  exact⟨qal (by rw[T.out]),rfl⟩
 have e47:((b.toNat:Int)==47)=false:=(qil b 47 (by omega)).trans (by rw[yf];exact y);by_cases z:b=63
 ·subst z
  have T:Hid (qcw f 63=1):=by show _=_;unfold qcw;simp
  go_enter func173,ntmps173
  go_wp2
  go_ret
  exact⟨qal (by rw[T.out]),rfl⟩
 have e63:((b.toNat:Int)==63)=false:=(qil b 63 (by omega)).trans (by rw[yf];exact z);by_cases D:b=35
 ·subst D
  have T:Hid (qcw f 35=1):=by show _=_;unfold qcw;simp
  go_enter func173,ntmps173
  go_wp2
  go_ret
  exact⟨qal (by rw[T.out]),rfl⟩
 have e35:((b.toNat:Int)==35)=false:=(qil b 35 (by omega)).trans (by rw[yf];exact D);by_cases I:b=58/\¬f=4
 ·obtain⟨rfl,U⟩:=I
  have J:(f != 4)=true:=by rw[bne_iff_ne];exact U
  have T:Hid (qcw f 58=1):=by show _=_;unfold qcw;simp[J]
  clear U;go_enter func173,ntmps173
  go_wp2
  go_ret
  exact⟨qal (by rw[T.out]),rfl⟩
 have V:qcw f b=if f=2 then 3 else f:=by
  unfold qcw;rw[if_neg];simp only[yU,yF,yL,bne_iff_ne,ne_eq,not_or];exact⟨y,z,D,I⟩
 have e58:(((b.toNat:Int)==58)=false)\/(((b.toNat:Int)==58)=true/\f=4):=by
  by_cases q:b=58
  ·right
   refine⟨(qil b 58 (by omega)).trans (by rw[yF];exact q),?_⟩;exact Decidable.byContradiction fun r=>I ⟨q,r⟩
  ·left;exact(qil b 58 (by omega)).trans (by rw[yf];exact q)
 clear y z D I;rcases e58 with e58|⟨e58,rfl⟩
 ·by_cases X:f=2
  ·have T:Hid (qcw f b=3):=by show _=_;rw[V,if_pos X]
   clear V;subst X;go_enter func173,ntmps173
   go_wp2
   go_ret
   exact⟨qal (by rw[T.out]),rfl⟩
  ·have T:Hid (qcw f b=f):=by show _=_;rw[V,if_neg X]
   have O:(f==2)=false:=yf.2 X;clear V X;go_enter func173,ntmps173
   go_wp2
   go_ret
   exact⟨qal (by rw[T.out]),rfl⟩
 ·have T:Hid (qcw 4 b=4):=by show _=_;rw[V];rfl
  clear V;go_enter func173,ntmps173
  go_wp2
  go_ret
  exact⟨qal (by rw[T.out]),rfl⟩
theorem q93(n:zU):qcu n=if(qd1==n)=true then 1 else if(qg0==n)=true then 2 else if(qcx==n)=true then 3 else if(qcz==n)=true then 4 else 0:=by
 have e:∀l:zU,(n=l)=((l==n)=true):=fun l=>propext (by rw[yF];exact eq_comm);unfold qcu;simp only[e]
def qg5:Obj:=.cells #[.string ⟨#[116,105,116,108,101]⟩,.string ⟨#[116,101,120,116,97,114,101,97]⟩,.string ⟨#[115,99,114,105,112,116]⟩,.string ⟨#[115,116,121,108,101]⟩] 9
theorem qvs(n:zU)(w:World) :
  zC 65 #[.string ⟨n.toArray⟩] w fun e w'=>e=.returned (zI (qcu n:Nat))/\w.alloc qg5=w':=by
 have y:=zH (q93 n);unfold qg5;go_enter func65,ntmps65
 go_wp2
 go_loop [4] (fun i=>∃k:Nat,k<=4/\i=zI k/\(1<=k->(qd1==n)=false)/\(2<=k->(qg0==n)=false)/\(3<=k->(qcx==n)=false)/\(4<=k->(qcz==n)=false)) (fun i=>4 - (intOf i).toNat)
 case atStart=>exact⟨0,by omega,rfl,by omega,by omega,by omega,by omega⟩
 case round=>
  obtain⟨k,z,rfl,D,I,J,O⟩:=hrel;have T:Hid (1<=k->(qd1==n)=false):=D;have U:Hid (2<=k->(qg0==n)=false):=I;have V:Hid (3<=k->(qcx==n)=false):=J;have X:Hid (4<=k->(qcz==n)=false):=O;clear D I J O;rcases(show k=0\/k=1\/k=2\/k=3\/k=4 by omega)with rfl|rfl|rfl|rfl|rfl
  ·by_cases Y:([116,105,116,108,101]==n)=true
   ·have Z:Hid (qcu n=1):=by show _=_;rw[y.out,if_pos (show (qd1==n)=true from Y)]
    go_wp2
    go_ret
    exact⟨qal (by rw[Z.out];rfl),rfl⟩
   ·have Y:=ye.2 Y
    have HQ:Hid ((qd1==n)=false):=Y;go_wp2
    go_round
    case rel=>exact⟨1,by omega,rfl,fun _=>HQ.out,by omega,by omega,by omega⟩
    case measure=>simp[intOf]
  ·by_cases Y:([116,101,120,116,97,114,101,97]==n)=true
   ·have Z:Hid (qcu n=2):=by show _=_;rw[y.out,T.out (by omega),if_neg (by simp),if_pos (show (qg0==n)=true from Y)]
    go_wp2
    go_ret
    exact⟨qal (by rw[Z.out];rfl),rfl⟩
   ·have Y:=ye.2 Y
    have HQ:Hid ((qg0==n)=false):=Y;go_wp2
    go_round
    case rel=>exact⟨2,by omega,rfl,fun _=>T.out (by omega),fun _=>HQ.out,by omega,by omega⟩
    case measure=>simp[intOf]
  ·by_cases Y:([115,99,114,105,112,116]==n)=true
   ·have Z:Hid (qcu n=3):=by show _=_;rw[y.out,T.out (by omega),if_neg (by simp),U.out (by omega),if_neg (by simp),if_pos (show (qcx==n)=true from Y)]
    go_wp2
    go_ret
    exact⟨qal (by rw[Z.out];rfl),rfl⟩
   ·have Y:=ye.2 Y
    have HQ:Hid ((qcx==n)=false):=Y;go_wp2
    go_round
    case rel=>exact⟨3,by omega,rfl,fun _=>T.out (by omega),fun _=>U.out (by omega),fun _=>HQ.out,by omega⟩
    case measure=>simp[intOf]
  ·by_cases Y:([115,116,121,108,101]==n)=true
   ·have Z:Hid (qcu n=4):=by show _=_;rw[y.out,T.out (by omega),if_neg (by simp),U.out (by omega),if_neg (by simp),V.out (by omega),if_neg (by simp),if_pos (show (qcz==n)=true from Y)]
    go_wp2
    go_ret
    exact⟨qal (by rw[Z.out];rfl),rfl⟩
   ·have Y:=ye.2 Y
    have HQ:Hid ((qcz==n)=false):=Y;go_wp2
    go_round
    case rel=>exact⟨4,by omega,rfl,fun _=>T.out (by omega),fun _=>U.out (by omega),fun _=>V.out (by omega),fun _=>HQ.out⟩
    case measure=>simp[intOf]
  ·have Z:Hid (qcu n=0):=by show _=_;rw[y.out,T.out (by omega),if_neg (by simp),U.out (by omega),if_neg (by simp),V.out (by omega),if_neg (by simp),X.out (by omega),if_neg (by simp)]
   go_wp2
   go_ret
   exact⟨qal (by rw[Z.out];rfl),rfl⟩
theorem qyt(n:zU):(qcu n=0/\qav n=1)\/(qcu n=1/\qav n=19)\/(qcu n=2/\qav n=19)\/(qcu n=3/\qav n=20)\/(qcu n=4/\qav n=28):=by
 unfold qcu qav;by_cases y:n=qd1
 ·rw[if_pos y,if_pos y];simp
 rw[if_neg y,if_neg y];by_cases z:n=qg0
 ·rw[if_pos z,if_pos z];simp
 rw[if_neg z,if_neg z];by_cases D:n=qcx
 ·rw[if_pos D,if_pos D];simp
 rw[if_neg D,if_neg D];by_cases I:n=qcz
 ·rw[if_pos I,if_pos I];simp
 rw[if_neg I,if_neg I];simp
theorem q88(n:zU)(w:World) :
  zC 171 #[.string ⟨n.toArray⟩] w (zR (zI (qav n:Nat)) w):=by
 have y:=fun w=>qvs n w;have z:=qyt n;generalize qav n=c at z |-;generalize qcu n=k at z y;unfold qg5 at y;rcases z with⟨rfl,rfl⟩|⟨rfl,rfl⟩|⟨rfl,rfl⟩|⟨rfl,rfl⟩|⟨rfl,rfl⟩
 all_goals
  have D:=zH y;clear y;go_enter func171,ntmps171
  go_wp2_with (go_at_call 65;refine(D.out _).mono ?_;rintro e w' ⟨rfl,rfl⟩)
  go_ret
  exact⟨rfl,by repeat(first|exact xL _ _|refine Below.alloc ?_ (by simp<;>omega) _|apply Below.drew)⟩
variable{w:World}{g n:Nat}{p:Sp}
def qan(p:Sp):Array Value:=#[zI p.mode,.string ⟨p.tag.toArray⟩,.string ⟨p.attr.toArray⟩,.string ⟨p.inside.toArray⟩,.string ⟨p.run.toArray⟩,zI p.far]
def qaz(p:Sp):Value:=.agg (qan p)
structure SpAt(w:World)(g:Nat)(p:Sp):Prop where
 mode:w.cell? (zO g 0)=some (zI p.mode)
 tag:w.cell? (zO g 1)=some (.string ⟨p.tag.toArray⟩)
 attr:w.cell? (zO g 2)=some (.string ⟨p.attr.toArray⟩)
 inside:w.cell? (zO g 3)=some (.string ⟨p.inside.toArray⟩)
 run:w.cell? (zO g 4)=some (.string ⟨p.run.toArray⟩)
 far:w.cell? (zO g 5)=some (zI p.far)
theorem ze4{t:TypeId}{fz:Nat×Nat}(h:w.heap[g]?=some (.cells (qan p) t fz)):SpAt w g p:=
 ⟨qaa h 0 _ rfl,qaa h 1 _ rfl,qaa h 2 _ rfl,qaa h 3 _ rfl,qaa h 4 _ rfl,qaa h 5 _ rfl⟩
theorem qsn(w:World)(p:Sp)(t:TypeId):SpAt (w.alloc (.cells (qan p) t)) w.heap.size p:=ze4 (xF w _)
theorem SpAt.kept{w':World}{B:Nat}(h:SpAt w g p)(y:Below B w w')(z:g<B):SpAt w' g p:=
 ⟨(y.cell (p:=zO g 0) z).trans h.mode,(y.cell (p:=zO g 1) z).trans h.tag,(y.cell (p:=zO g 2) z).trans h.attr,(y.cell (p:=zO g 3) z).trans h.inside,(y.cell (p:=zO g 4) z).trans h.run,(y.cell (p:=zO g 5) z).trans h.far⟩
def qjo(l e:zU)(k i:Nat):Bool:=((l.drop k).take i).map small==e.take i
theorem q0k(l e:zU)(k i:Nat)(y:k+i<l.length)(z:i<e.length):qjo l e k (i+1)=(qjo l e k i && small l[k+i]==e[i]):=by
 unfold qjo;rw[yB (by rw[yM];omega),yB z,yG,List.getElem_drop];rw[xh,yF,yL,yF,yF];constructor
 ·intro h
  have:=List.append_inj h (by rw[yR,yP,yP,yM];omega);exact⟨this.1,by simpa using this.2⟩
 ·rintro⟨D,I⟩
  rw[D,<-I];rfl
theorem zfb{l e:zU}(h:l.length<n+1):qbr l e (n+1)=qbr l e n:=by
 show(if qgb l e (n+1)=true then _ else _)=_;rw[if_neg];unfold qgb;simp;omega
theorem zg5{l e:zU}(h:n+1<=l.length)(y:qjo l e (l.length - (n+1)) (n+1)=true):qbr l e (n+1)=n+1:=by
 show(if qgb l e (n+1)=true then _ else _)=_;rw[if_pos];unfold qgb;unfold qjo at y;rw[yp (by rw[yM];omega)]at y;rw[y,yV h];rfl
theorem zfc{l e:zU}(h:n+1<=l.length)(y:qjo l e (l.length - (n+1)) (n+1)=false):qbr l e (n+1)=qbr l e n:=by
 show(if qgb l e (n+1)=true then _ else _)=_;rw[if_neg];unfold qgb;unfold qjo at y;rw[yp (by rw[yM];omega)]at y;rw[y,Bool.and_false];simp
theorem q2t(p:Sp)(w:World)(ht:p.tag.length<=1000)(hi:p.inside.length<=1000) :
  zC 66 #[qaz p] w (zR (zI (p.read:Nat)) w):=by
 have J:(ByteArray.mk p.tag.toArray).size=p.tag.length:=by simp[ByteArray.size]
 have D:(ByteArray.mk p.inside.toArray).size=p.inside.length:=by simp[ByteArray.size]
 have hE:(ByteArray.mk #[60,47]++ByteArray.mk p.tag.toArray)=⟨(qcr p.tag).toArray⟩:=by apply xi;simp[qcr]
 have O:(qcr p.tag).length<=1002:=by simp[qcr];omega
 have T:(ByteArray.mk (qcr p.tag).toArray).size=(qcr p.tag).length:=by simp[ByteArray.size]
 have HV:Hid (p.read=qbr p.inside (qcr p.tag) (qcr p.tag).length):=rfl;generalize p.read=R at HV |-;unfold qaz qan;have y:=qsn w p 94;unfold qan at y;go_enter func66,ntmps66
 go_wp2
 clear hE;generalize qcr p.tag=E at HV O T |-;have hq:=y.inside;generalize p.inside=L at D hi HV hq |-;have hb:zW w (w.alloc (.cells #[zI p.mode,.string ⟨p.tag.toArray⟩,.string ⟨p.attr.toArray⟩,.string ⟨L.toArray⟩,.string ⟨p.run.toArray⟩,zI p.far] 94)):=zB _;generalize (w.alloc _)=W at hq hb |-;generalize hG:w.heap.size=G at hq |-;clear J ht y;go_loopw [4] (fun i wr=>∃n:Nat,n<=E.length/\i=zI n/\Hid (R=qbr L E n)/\∃m,wr=W.drewN m) (fun i _=>(intOf i).toNat)
 case atStart=>exact⟨E.length,yg _,rfl,HV,0,rfl⟩
 case round=>
  obtain⟨n,hn,rfl,HN,m,rfl⟩:=hrel;clear HV
  match n,hn with
  |0,_=>
    go_wp2
    go_ret
    exact⟨qal (by rw[HN.out];rfl),qat hb _⟩
  |n+1,hn=>
    have c1:(0:Int)<(n:Int)+1:=by omega
    have cc:((n+1:Nat):Int)=(n:Int)+1:=by omega
    rw[cc];by_cases U:L.length<n+1
    ·have d1:(L.length:Int) - ((n:Int)+1)<0:=by omega
     have d0:(n:Int)+1 - 1=(n:Int):=by omega
     go_wp2
     go_roundw
     case rel=>
      refine⟨n,by omega,rfl,?_,m,rfl⟩;show _=_;rw[HN.out,zfb U]
     case measure=>simp[intOf]
    ·have d1:decide ((L.length:Int) - ((n:Int)+1)<0)=false:=by rw[yO];omega
     have d0:(n:Int)+1 - 1=(n:Int):=by omega
     go_wp2
     obtain⟨K,hK⟩:∃K,L.length=K+(n+1):=⟨L.length - (n+1),by omega⟩;have eK:(L.length:Int) - ((n:Int)+1)=(K:Int):=by omega
     have I:L.length - (n+1)=K:=by omega
     rw[eK];clear d1 eK;have HK:=zH hK;clear hK;go_hide hQ
     have HQ:=zH hQ;clear hQ;go_loopw [6,7] (fun sm i wr=>∃i':Nat,i'<=n+1/\i=zI i'/\sm=.bool (qjo L E K i')/\Hid (∃m',wr=W.drewN m')) (fun _ i _=>n+1 - (intOf i).toNat)
     case atStart=>exact⟨0,yH _,rfl,by simp[qjo],⟨m,rfl⟩⟩
     case round=>
      obtain⟨i',X,rfl,rfl,HW⟩:=hrel;have Y:wr.cell? (zO G 3)=some (.string ⟨L.toArray⟩):=by obtain⟨m',e⟩:=HW.out;rw[e];exact hq
      have V:zW w wr:=by obtain⟨m',e⟩:=HW.out;rw[e];exact qat hb _
      by_cases Z:i'<n+1
      ·have z:(i':Int)<(n:Int)+1:=by omega
       have l1:K+i'<L.length:=by have:=HK.out;omega
       have l2:i'<E.length:=by omega
       have HS:=zH (q0k L E K i' l1 l2);by_cases hs:qjo L E K i'=true
       ·have b1:(K:Int)+(i':Int)<(L.length:Int):=by omega
        have b2:(0:Int)<=(K:Int)+(i':Int):=by omega
        have b3:((K:Int)+(i':Int)).toNat=K+i':=by omega
        have b4:(i':Int)<(E.length:Int):=by omega
        have b5:K+i'<=1000:=by omega
        have b6:i'<=1002:=by omega
        have bw:IntKind.i64.wrap ((K:Int)+(i':Int))=(K:Int)+(i':Int):=by rw[IntKind.wrap_i64];omega
        rw[hs];have HB:=zH hs;clear hs;go_wp2
        go_quiet ((go_at_call 101;refine qko (qg7 ((ByteArray.mk L.toArray)[K+i']'(by rw[D];exact l1)) _)))
        go_wp2
        go_roundw
        case rel=>exact⟨i'+1,by omega,by go_num,by rw[HS.out,HB.out,Bool.true_and];exact yE Value.bool (beq8 _ _),by obtain⟨m',e⟩:=HW.out;exact⟨m'+nq,by rw[e];simp[World.drewN,Nat.add_assoc]⟩⟩
        case measure=>simp[intOf];omega
       ·have hs:=ye.2 hs
        rw[hs];have HB:=zH hs;clear hs;go_wp2
        go_quiet (fail)
        go_wp2
        go_roundw
        case rel=>exact⟨i'+1,by omega,by go_num,by rw[HS.out,HB.out];rfl,by obtain⟨m',e⟩:=HW.out;exact⟨m'+nq,by rw[e];simp[World.drewN,Nat.add_assoc]⟩⟩
        case measure=>simp[intOf];omega
      ·have z:decide ((i':Int)<(n:Int)+1)=false:=by rw[yO];omega
       obtain rfl:i'=n+1:=by omega
       by_cases hs:qjo L E K (n+1)=true
       ·have HF:Hid (R=n+1):=by show _=_;rw[HN.out];exact zg5 (by have:=HK.out;omega) (by rw[I];exact hs)
        rw[hs];clear hs;go_wp2
        rw[<-HQ.out];go_wp2
        go_ret
        exact⟨qal (by rw[HF.out];rfl),V⟩
       ·have hs:=ye.2 hs
        have HF:Hid (R=qbr L E n):=by show _=_;rw[HN.out];exact zfc (by have:=HK.out;omega) (by rw[I];exact hs)
        rw[hs];clear hs;go_wp2
        rw[<-HQ.out];go_wp2
        go_roundw
        case rel=>exact⟨n,by omega,rfl,HF,HW.out⟩
        case measure=>simp[intOf]
theorem pre2(n:zU)(h:2<=n.length):(n.take 2==[111,110])=true↔[111,110] <+: n:=by
 rw[yF];constructor
 ·intro q
  rw[<-q];exact List.take_prefix _ _
 ·rintro⟨t,rfl⟩;rfl
theorem qvc{n:zU}(h:(n==[115,116,121,108,101])=true):qbt n=3:=by
 rw[yF]at h;unfold qbt;rw[if_pos (.inl h)]
theorem q5t{n:zU}(h:[111,110] <+: n):qbt n=3:=by unfold qbt;rw[if_pos (.inr h)]
theorem qdv{n:zU}(h:(n==[115,116,121,108,101])=false)(y:¬ [111,110] <+: n):qbt n=if n=[104,114,101,102]\/n=[115,114,99]\/n=[97,99,116,105,111,110]then 2 else 1:=by
 rw[yf]at h;unfold qbt;rw[if_neg (fun q=>q.elim h y)]
theorem zch(n:zU)(w:World)(D:n.length<=1000) :
  zC 67 #[.string ⟨n.toArray⟩] w (zQ (zI (qbt n)) w):=by
 have I:(ByteArray.mk n.toArray).size=n.length:=by simp[ByteArray.size]
 by_cases J:(n==[115,116,121,108,101])=true
 ·have O:Hid (qbt n=3):=qvc J
  go_enter func67,ntmps67
  go_wp2
  go_ret
  exact⟨qal (by rw[O.out]),rfl⟩
 ·have J:=ye.2 J
  by_cases T:1<n.length
  ·have y:(1:Int)<(n.length:Int):=by omega
   have U:(ByteArray.mk n.toArray).extract 0 2=⟨(n.take 2).toArray⟩:=extract_take _ _;by_cases V:(n.take 2==[111,110])=true
   ·have O:Hid (qbt n=3):=q5t ((pre2 n (by omega)).1 V)
    go_enter func67,ntmps67
    go_wp2
    go_ret
    exact⟨qal (by rw[O.out]),rfl⟩
   ·have X:=zH (fun q=>V ((pre2 n (by omega)).2 q))
    have V:=ye.2 V;by_cases a1:(n==[104,114,101,102])=true
    ·have O:Hid (qbt n=2):=by show _=_;rw[qdv J X.out,if_pos (.inl (yF.1 a1))]
     go_enter func67,ntmps67
     go_wp2
     go_ret
     exact⟨qal (by rw[O.out]),rfl⟩
    ·have a1:=ye.2 a1
     by_cases a2:(n==[115,114,99])=true
     ·have O:Hid (qbt n=2):=by show _=_;rw[qdv J X.out,if_pos (.inr (.inl (yF.1 a2)))]
      go_enter func67,ntmps67
      go_wp2
      go_ret
      exact⟨qal (by rw[O.out]),rfl⟩
     ·have a2:=ye.2 a2
      by_cases a3:(n==[97,99,116,105,111,110])=true
      ·have O:Hid (qbt n=2):=by show _=_;rw[qdv J X.out,if_pos (.inr (.inr (yF.1 a3)))]
       go_enter func67,ntmps67
       go_wp2
       go_ret
       exact⟨qal (by rw[O.out]),rfl⟩
      ·have a3:=ye.2 a3
       have O:Hid (qbt n=1):=by show _=_;rw[qdv J X.out,if_neg (fun q=>q.elim (fun z=>by rw[yF.2 z]at a1;cases a1) (fun q=>q.elim (fun z=>by rw[yF.2 z]at a2;cases a2) (fun z=>by rw[yF.2 z]at a3;cases a3)))]
       go_enter func67,ntmps67
       go_wp2
       go_ret
       exact⟨qal (by rw[O.out]),rfl⟩
  ·have y:decide ((1:Int)<(n.length:Int))=false:=by rw[yO];omega
   have X:Hid (¬ [111,110] <+: n):=by
    intro q;have:=q.length_le;simp at this;omega
   by_cases a1:(n==[104,114,101,102])=true
   ·have O:Hid (qbt n=2):=by show _=_;rw[qdv J X.out,if_pos (.inl (yF.1 a1))]
    go_enter func67,ntmps67
    go_wp2
    go_ret
    exact⟨qal (by rw[O.out]),rfl⟩
   ·have a1:=ye.2 a1
    by_cases a2:(n==[115,114,99])=true
    ·have O:Hid (qbt n=2):=by show _=_;rw[qdv J X.out,if_pos (.inr (.inl (yF.1 a2)))]
     go_enter func67,ntmps67
     go_wp2
     go_ret
     exact⟨qal (by rw[O.out]),rfl⟩
    ·have a2:=ye.2 a2
     by_cases a3:(n==[97,99,116,105,111,110])=true
     ·have O:Hid (qbt n=2):=by show _=_;rw[qdv J X.out,if_pos (.inr (.inr (yF.1 a3)))]
      go_enter func67,ntmps67
      go_wp2
      go_ret
      exact⟨qal (by rw[O.out]),rfl⟩
     ·have a3:=ye.2 a3
      have O:Hid (qbt n=1):=by show _=_;rw[qdv J X.out,if_neg (fun q=>q.elim (fun z=>by rw[yF.2 z]at a1;cases a1) (fun q=>q.elim (fun z=>by rw[yF.2 z]at a2;cases a2) (fun z=>by rw[yF.2 z]at a3;cases a3)))]
      go_enter func67,ntmps67
      go_wp2
      go_ret
      exact⟨qal (by rw[O.out]),rfl⟩
theorem q2v(l:zU)(b:UInt8):qhq (l++[b])=if b=37 then 2 else pct1 b l.reverse:=by
 unfold qhq;rw[List.reverse_append];rfl
theorem qtr(s:zT)(K:Nat)(h:s.size=K+1):s.data.toList=s.data.toList.take K++[s[K]'(by omega)]:=by
 rw[<-qdn s K (by omega),qeo s (K+1) (by omega)]
theorem qw5(w:World)(s:zT)(h:s.size=0) :
  zC 71 #[.string s] w (zQ (zI (qhq s.data.toList)) w):=by
 have y:Hid (qhq s.data.toList=0):=by
  have:s.data.toList=[]:=yC (by simpa using h);show _=_;rw[this];rfl
 have z:(s.size:Int)=0:=by omega
 go_enter func71,ntmps71
 go_wp2
 go_ret
 exact⟨qal (by rw[y.out]),rfl⟩
theorem q01(w:World)(s:zT)(h:s.size=1) :
  zC 71 #[.string s] w (zQ (zI (qhq s.data.toList)) w):=by
 have z:Hid (qhq s.data.toList=if s[0]=37 then 2 else 0):=by
  have:=qtr s 0 (by omega);show _=_;rw[this,q2v];simp[pct1]
 have D:(s.size:Int)=1:=by omega
 by_cases I:s[0]=37
 ·have y:((s[0].toNat:Int)==37)=true:=by rw[I];rfl
  rw[if_pos I]at z;clear I;go_enter func71,ntmps71
  go_wp2
  go_ret
  exact⟨qal (by rw[z.out]),rfl⟩
 ·have y:((s[0].toNat:Int)==37)=false:=(qil s[0] 37 (by omega)).trans (yf.2 I)
  rw[if_neg I]at z;clear I;go_enter func71,ntmps71
  go_wp2
  go_ret
  exact⟨qal (by rw[z.out]),rfl⟩
theorem qw6(w:World)(s:zT)(K:Nat)(h:s.size=K+2)(J:s.size<=4000000000000000000) :
  zC 71 #[.string s] w (zQ (zI (qhq s.data.toList)) w):=by
 have O:Hid (qhq s.data.toList=if s[K+1]=37 then 2 else if s[K]=37/\among s[K+1] qa1=true then 1 else 0):=by
  have a:=qtr s (K+1) (by omega);have b:=qdn s K (by omega);show _=_;rw[a,q2v,b,List.reverse_append];rfl
 have d1:(s.size:Int) - 1=((K+1:Nat):Int):=by omega
 have d2:(s.size:Int) - 2=(K:Int):=by omega
 have p0:(0:Int)<(s.size:Int):=by omega
 have p1:(1:Int)<(s.size:Int):=by omega
 have D:K+1<s.size:=by omega
 have T:K<s.size:=by omega
 have I:K+1<=4000000000000000000:=by omega
 by_cases U:s[K+1]=37
 ·have y:((s[K+1].toNat:Int)==37)=true:=by rw[U];rfl
  rw[if_pos U]at O;clear U;go_enter func71,ntmps71
  go_wp2
  go_ret
  exact⟨qal (by rw[O.out]),rfl⟩
 ·have y:((s[K+1].toNat:Int)==37)=false:=(qil s[K+1] 37 (by omega)).trans (yf.2 U)
  rw[if_neg U]at O;clear U;by_cases V:s[K]=37
  ·have z:((s[K].toNat:Int)==37)=true:=by rw[V];rfl
   cases X:among s[K+1] qa1
   ·rw[X,if_neg (by simp)]at O
    clear V;go_enter func71,ntmps71
    go_wp2_with (go_at_call 80;refine cm (qed s[K+1] _ qa1 _ rfl (by decide)) ?_;rw[X])
    go_ret
    exact⟨qal (by rw[O.out]),rfl⟩
   ·rw[X,if_pos ⟨V,rfl⟩]at O
    clear V;go_enter func71,ntmps71
    go_wp2_with (go_at_call 80;refine cm (qed s[K+1] _ qa1 _ rfl (by decide)) ?_;rw[X])
    go_ret
    exact⟨qal (by rw[O.out]),rfl⟩
  ·have z:((s[K].toNat:Int)==37)=false:=(qil s[K] 37 (by omega)).trans (yf.2 V)
   rw[if_neg (fun q=>V q.1)]at O;clear V;go_enter func71,ntmps71
   go_wp2
   go_ret
   exact⟨qal (by rw[O.out]),rfl⟩
theorem q02(s:zT)(w:World)(y:s.size<=4000000000000000000) :
  zC 71 #[.string s] w (zQ (zI (qhq s.data.toList)) w):=by
 by_cases z:s.size=0
 ·exact qw5 w s z
 by_cases D:s.size=1
 ·exact q01 w s D
 ·exact qw6 w s (s.size - 2) (by omega) y
end Go.Proofs.YtfkhljmiehdgmaaGreatDoor
