/-
  Steps of the proof.
-/
import Derived.Test.YtfkhljmiehdgmaaGreatDoorCmAC
import Derived.Maps.AppendAt
import Derived.Deep.RegionLaw
import Derived.Lib.SplitLaws
set_option maxRecDepth 100000
set_option maxHeartbeats 40000000
namespace Go.Proofs.YtfkhljmiehdgmaaGreatDoor
open Go.RowKit
theorem qb3(b:UInt8)(all:ByteArray)(l:List UInt8)(w:World)(ha:all.data.toList=l)(h:Pl.among b l=true) :
  Calls Tryz.prog 130 #[.string all,.int .u8 b.toNat] w fun e w'=>∃x:Int,0≤x∧e=.returned (.int .i64 x)∧w=w':=by
 refine(Tryz.strings_IndexByte all b.toNat w).mono ?_;rintro e w' ⟨rfl,rfl⟩;refine⟨_,?_,rfl,rfl⟩;rw[Pl.qmp,ha];rcases Pl.qgk l b with ⟨a,_⟩ | ⟨_,a⟩
 ·exact a
 ·rw[h]at a;cases a
theorem qce(b:UInt8)(all:ByteArray)(l:List UInt8)(w:World)(ha:all.data.toList=l)(h:Pl.among b l=false) :
  Calls Tryz.prog 130 #[.string all,.int .u8 b.toNat] w fun e w'=>e=.returned (.int .i64 (-1))∧w=w':=by
 refine(Tryz.strings_IndexByte all b.toNat w).mono ?_;rintro e w' ⟨rfl,rfl⟩;refine⟨qan ?_,rfl⟩;rw[Pl.qmp,ha];rcases Pl.qgk l b with ⟨_,a⟩ | ⟨a,_⟩
 ·rw[h]at a;cases a
 ·exact a
theorem qyn(s p:ByteArray)(l:List UInt8)(w:World)(hp:p.data.toList=l) :
  Calls Tryz.prog 191 #[.string s,.string p] w fun e w'=>e=.returned (.bool (l.isPrefixOf s.data.toList))∧w=w':=by
 refine(Tryz.strings_HasPrefix s p w).mono ?_;rintro e w' ⟨rfl,rfl⟩;exact⟨qbo (by rw[hp];rfl),rfl⟩
theorem q01(n:List UInt8)(w:World)(ht:PTabs w) :
  Calls Tryz.prog 186 #[.string ⟨n.toArray⟩] w fun e w'=>e=.returned (.int .i64 (Pl.qcw n))∧w=w':=by
 obtain⟨c0,d0,e0⟩:=qlo ht.at' 0 _ rfl;obtain⟨c1,d1,e1⟩:=qlo ht.at' 1 _ rfl;obtain⟨c2,d2,e2⟩:=qlo ht.at' 2 _ rfl;obtain⟨c3,d3,e3⟩:=qlo ht.at' 3 _ rfl;obtain⟨c4,d4,e4⟩:=qlo ht.at' 4 _ rfl;simp only[bs,Pl.qcv,Nat.mul_zero,Nat.reduceMul,Nat.reduceAdd]at c0 c1 c2 c3 c4 d0 d1 d2 d3 d4 e0 e1 e2 e3 e4;clear ht;go_enter Tryz.func186,Tryz.ntmps186
 go_wp2
 go_loop [3,4] (fun _ i=>∃k:Nat,k≤5∧i=.int .i64 k∧(Pl.qds.take k).find? (Pl.qbb n)=none) (fun _ i=>5 - (intOf i).toNat)
 case atStart=>exact⟨0,by omega,rfl,rfl⟩
 case round=>
  obtain⟨k,hk,rfl,hn⟩:=hrel;have HN:Hid ((Pl.qds.take k).find? (Pl.qbb n)=none):=hn;clear hn;rcases(show k=0∨k=1∨k=2∨k=3∨k=4∨k=5 by omega)with rfl | rfl | rfl | rfl | rfl | rfl
  ·by_cases hq:([104,114,101,102]==n)=true
   ·have HV:Hid (Pl.qcw n=1):=Pl.qfv n 0 _ rfl HN.out (by show (([104,114,101,102]==n) || _)=true;rw[hq];rfl)
    go_wp2
    go_ret
    exact⟨qan (by rw[HV.out]),rfl⟩
   ·have hq:=Bool.eq_false_iff.2 hq
    have HV:Hid ((Pl.qds.take (0+1)).find? (Pl.qbb n)=none):=Pl.qcz (Pl.qbb n) 0 _ rfl HN.out (by show (([104,114,101,102]==n) || _)=false;rw[hq];rfl);go_wp2
    go_round
    case rel=>exact⟨1,by omega,rfl,HV.out⟩
    case measure=>simp[intOf]
  ·by_cases hq:([115,114,99]==n)=true
   ·have HV:Hid (Pl.qcw n=1):=Pl.qfv n 1 _ rfl HN.out (by show (([115,114,99]==n) || _)=true;rw[hq];rfl)
    go_wp2
    go_ret
    exact⟨qan (by rw[HV.out]),rfl⟩
   ·have hq:=Bool.eq_false_iff.2 hq
    have HV:Hid ((Pl.qds.take (1+1)).find? (Pl.qbb n)=none):=Pl.qcz (Pl.qbb n) 1 _ rfl HN.out (by show (([115,114,99]==n) || _)=false;rw[hq];rfl);go_wp2
    go_round
    case rel=>exact⟨2,by omega,rfl,HV.out⟩
    case measure=>simp[intOf]
  ·by_cases hq:([97,99,116,105,111,110]==n)=true
   ·have HV:Hid (Pl.qcw n=1):=Pl.qfv n 2 _ rfl HN.out (by show (([97,99,116,105,111,110]==n) || _)=true;rw[hq];rfl)
    go_wp2
    go_ret
    exact⟨qan (by rw[HV.out]),rfl⟩
   ·have hq:=Bool.eq_false_iff.2 hq
    have HV:Hid ((Pl.qds.take (2+1)).find? (Pl.qbb n)=none):=Pl.qcz (Pl.qbb n) 2 _ rfl HN.out (by show (([97,99,116,105,111,110]==n) || _)=false;rw[hq];rfl);go_wp2
    go_round
    case rel=>exact⟨3,by omega,rfl,HV.out⟩
    case measure=>simp[intOf]
  ·by_cases hq:([115,116,121,108,101]==n)=true
   ·have HV:Hid (Pl.qcw n=2):=Pl.qfv n 3 _ rfl HN.out (by show (([115,116,121,108,101]==n) || _)=true;rw[hq];rfl)
    go_wp2
    go_ret
    exact⟨qan (by rw[HV.out]),rfl⟩
   ·have hq:=Bool.eq_false_iff.2 hq
    have HV:Hid ((Pl.qds.take (3+1)).find? (Pl.qbb n)=none):=Pl.qcz (Pl.qbb n) 3 _ rfl HN.out (by show (([115,116,121,108,101]==n) || _)=false;rw[hq];rfl);go_wp2
    go_round
    case rel=>exact⟨4,by omega,rfl,HV.out⟩
    case measure=>simp[intOf]
  ·by_cases hq:([111,110]==n)=true
   ·have HV:Hid (Pl.qcw n=2):=Pl.qfv n 4 _ rfl HN.out (by show (([111,110]==n) || _)=true;rw[hq];rfl)
    go_wp2
    go_ret
    exact⟨qan (by rw[HV.out]),rfl⟩
   ·have hq:=Bool.eq_false_iff.2 hq
    by_cases hp:List.isPrefixOf [111,110] n=true
    ·have HV:Hid (Pl.qcw n=2):=Pl.qfv n 4 _ rfl HN.out (by show (([111,110]==n) || (true && List.isPrefixOf [111,110] n))=true;rw[hp];simp)
     go_wp2_with (go_at_call 191;refine(qyn ⟨n.toArray⟩ _ [111,110] _ rfl).mono ?_;rintro e w' ⟨rfl,rfl⟩)
     go_ret
     exact⟨qan (by rw[HV.out]),rfl⟩
    ·have hp:=Bool.eq_false_iff.2 hp
     have HV:Hid ((Pl.qds.take (4+1)).find? (Pl.qbb n)=none):=Pl.qcz (Pl.qbb n) 4 _ rfl HN.out (by show (([111,110]==n) || (true && List.isPrefixOf [111,110] n))=false;rw[hq,hp];rfl);go_wp2_with (go_at_call 191;refine(qyn ⟨n.toArray⟩ _ [111,110] _ rfl).mono ?_;rintro e w' ⟨rfl,rfl⟩)
     go_round
     case rel=>exact⟨5,by omega,rfl,HV.out⟩
     case measure=>simp[intOf]
  ·have HV:Hid (Pl.qcw n=0):=Pl.qw8 n HN.out
   go_wp2
   go_ret
   exact⟨qan (by rw[HV.out]),rfl⟩
namespace Pl
theorem qul(b:UInt8):qcx b=(b==95 || (qi8 b || (decide (97≤b.toNat) && decide (b.toNat≤122)))):=rfl
theorem q65(f:UInt8→Bool)(s:ByteArray)(k:Nat)(h:k<s.size)(h0:(s.data.toList.take k).all f=true)(h1:f s[k]=true):(s.data.toList.take (k+1)).all f=true:=by
 rw[qd1 s k h,List.all_append,h0];simp[h1]
theorem zah(f:UInt8→Bool)(s:ByteArray)(k:Nat)(h:k<s.size)(h1:f s[k]=false):s.data.toList.all f=false:=by
 rw[qrz s k h,List.all_append];simp[h1]
theorem q9n(f:UInt8→Bool)(s:ByteArray)(k:Nat)(h:¬k<s.size)(h0:(s.data.toList.take k).all f=true):s.data.toList.all f=true:=by
 rw[←qer s k (by omega)];exact h0
theorem q03(s:ByteArray)(h1:s.size≠0)(h2:s.size≤8):qa6 s.data.toList=s.data.toList.all qcx:=by
 unfold qa6;have e1:s.data.toList.isEmpty=false:=by
  rw[List.isEmpty_eq_false_iff];intro q;apply h1;have:=congrArg List.length q;simpa using this
 have e2:decide (s.data.toList.length≤8)=true:=decide_eq_true (by simpa using h2);rw[e1,e2];rfl
theorem qui(s:ByteArray)(h2:¬s.size≤8):qa6 s.data.toList=false:=by
 unfold qa6;have e2:decide (s.data.toList.length≤8)=false:=decide_eq_false (by simpa using h2);rw[e2];simp
end Pl
theorem qc5(s:ByteArray)(w:World) :
  Calls Tryz.prog 72 #[.string s] w fun e w'=>e=.returned (.bool (Pl.qa6 s.data.toList))∧w=w':=by
 by_cases h0:s.size=0
 ·obtain rfl:s=⟨#[]⟩:=ByteArray.ext (Array.eq_empty_of_size_eq_zero h0)
  go_enter Tryz.func72,Tryz.ntmps72
  go_wp2_with fail
  go_ret
  exact⟨rfl,rfl⟩
 have HE:Hid ((s.toList.isEmpty)=false):=by
  show _=_;rw[Lib.toList_data,List.isEmpty_eq_false_iff];intro q;apply h0;have:=congrArg List.length q;simpa using this
 have c0:=HE.out;by_cases h8:s.size≤8
 rotate_left
 ·have HV:=hd (Pl.qui s h8)
  have c8:(8:Int)<(s.size:Int):=by omega
  clear h8;go_enter Tryz.func72,Tryz.ntmps72
  go_wp2_with fail
  go_ret
  exact⟨qbo HV.out.symm,rfl⟩
 have HV:=hd (Pl.q03 s h0 h8);have c8:¬(8:Int)<(s.size:Int):=by omega
 go_enter Tryz.func72,Tryz.ntmps72
 go_wp2_with fail
 clear c0 c8;go_loop [14] (fun i=>∃k:Nat,k≤s.size∧i=.int .i64 k∧Hid ((s.data.toList.take k).all Pl.qcx=true)) (fun i=>s.size - (intOf i).toNat)
 case atStart=>exact⟨0,Nat.zero_le _,rfl,rfl⟩
 case round=>
  obtain⟨k,hk,rfl,HN⟩:=hrel;by_cases ha:k<s.size
  ·have HB:Hid (∀x,Pl.qcx s[k]=x→(x=true→(s.data.toList.take (k+1)).all Pl.qcx=true)∧(x=false→s.data.toList.all Pl.qcx=false)):=by
    rintro x rfl;exact⟨fun q=>Pl.q65 _ s k ha HN.out q,fun q=>Pl.zah _ s k ha q⟩
   have HI:=hd (Pl.qul s[k]);by_cases d1:s[k]=95
   ·have HT:=(show Hid _ from(HB.out true (by rw[HI.out,d1];rfl)).1 rfl)
    have e1:(s[k].toNat:Int)=95:=by rw[d1];rfl
    clear HB HI HN d1;go_wp2_with (go_at_call 102;refine(qg3 s[k] _).mono ?_;rintro e w' ⟨rfl,rfl⟩)
    go_round
    case rel=>exact⟨k+1,by omega,by go_num,HT⟩
    case measure=>simp[intOf];omega
   ·have e1:¬(s[k].toNat:Int)=95:=fun q=>d1 (UInt8.toNat_inj.1 (show s[k].toNat=95 by omega))
    by_cases d2:Pl.qi8 s[k]=true
    ·have HT:=(show Hid _ from(HB.out true (by rw[HI.out,d2];simp)).1 rfl)
     clear HB HI HN d1;go_wp2_with (go_at_call 102;refine(qg3 s[k] _).mono ?_;rintro e w' ⟨rfl,rfl⟩;rw[d2])
     go_round
     case rel=>exact⟨k+1,by omega,by go_num,HT⟩
     case measure=>simp[intOf];omega
    ·have d2:=Bool.eq_false_iff.2 d2
     by_cases d3:97≤s[k].toNat
     ·by_cases d4:s[k].toNat≤122
      ·have HT:=(show Hid _ from(HB.out true (by rw[HI.out,d2];simp[d3,d4])).1 rfl)
       have e3:¬(s[k].toNat:Int)<97:=by omega
       have e4:¬(122:Int)<(s[k].toNat:Int):=by omega
       clear HB HI HN d1 d3 d4;go_wp2_with (go_at_call 102;refine(qg3 s[k] _).mono ?_;rintro e w' ⟨rfl,rfl⟩;rw[d2])
       go_round
       case rel=>exact⟨k+1,by omega,by go_num,HT⟩
       case measure=>simp[intOf];omega
      ·have HT:=(show Hid _ from(HB.out false (by rw[HI.out,d2];have:decide (s[k].toNat≤122)=false:=decide_eq_false d4;rw[this];simp[d1])).2 rfl)
       have e3:¬(s[k].toNat:Int)<97:=by omega
       have e4:(122:Int)<(s[k].toNat:Int):=by omega
       clear HB HI HN d1 d3 d4;go_wp2_with (go_at_call 102;refine(qg3 s[k] _).mono ?_;rintro e w' ⟨rfl,rfl⟩;rw[d2])
       go_ret
       exact⟨qbo (by rw[HV.out,HT.out]),rfl⟩
     ·have HT:=(show Hid _ from(HB.out false (by rw[HI.out,d2];have:decide (97≤s[k].toNat)=false:=decide_eq_false d3;rw[this];simp[d1])).2 rfl)
      have e3:(s[k].toNat:Int)<97:=by omega
      clear HB HI HN d1 d3;go_wp2_with (go_at_call 102;refine(qg3 s[k] _).mono ?_;rintro e w' ⟨rfl,rfl⟩;rw[d2])
      go_ret
      exact⟨qbo (by rw[HV.out,HT.out]),rfl⟩
  ·have HT:=hd (Pl.q9n Pl.qcx s k ha HN.out)
   clear HN;go_wp2
   go_ret
   exact⟨qbo (by rw[HV.out,HT.out]),rfl⟩
theorem qw9(s:ByteArray)(w:World) :
  Calls Tryz.prog 229 #[.string s] w fun e w'=>e=.returned (.bool (Pl.qd5 s.data.toList))∧w=w':=by
 have HV:Hid (Pl.qd5 s.data.toList=(decide (s.size≤3) && !(Pl.among 61 s.data.toList))):=by
  show _=_;unfold Pl.qd5
  congr 2
 by_cases h3:s.size≤3
 ·have c3:(s.size:Int)≤3:=by omega
  by_cases ha:Pl.among 61 s.data.toList=true
  ·have HV:Hid (Pl.qd5 s.data.toList=false):=by show _=_;rw[HV.out,ha];simp
   have HC:=hd (fun w=>qb3 61 s _ w rfl ha);clear ha;go_enter Tryz.func229,Tryz.ntmps229
   go_wp2_with (go_at_call 130;refine(HC.out _).mono ?_;rintro e w' ⟨x,hx,rfl,rfl⟩)
   go_ret
   refine⟨qbo ?_,rfl⟩;rw[HV.out];simp;omega
  ·have ha:=Bool.eq_false_iff.2 ha
   have HV:Hid (Pl.qd5 s.data.toList=true):=by show _=_;rw[HV.out,ha];simp[h3]
   have HC:=hd (fun w=>qce 61 s _ w rfl ha);clear ha;go_enter Tryz.func229,Tryz.ntmps229
   go_wp2_with (go_at_call 130;refine(HC.out _).mono ?_;rintro e w' ⟨rfl,rfl⟩)
   go_ret
   exact⟨qbo HV.out.symm,rfl⟩
 ·have c3:¬(s.size:Int)≤3:=by omega
  have HV:Hid (Pl.qd5 s.data.toList=false):=by show _=_;rw[HV.out];simp[h3]
  clear h3;go_enter Tryz.func229,Tryz.ntmps229
  go_wp2_with fail
  go_ret
  exact⟨qbo HV.out.symm,rfl⟩
def qdh(p:Pl.Pt):List Value:=[.int .i64 p.kind,.int .i64 p.pos,bs p.text,.int .i64 p.mate]
def qb0(L:List Pl.Pt):List Value:=L.flatMap qdh
theorem qws(L:List Pl.Pt):(qb0 L).length=L.length*4:=by
 induction L with
 | nil=>rfl
 | cons p L ih=>show (qb0 L).length+4=_;rw[ih,List.length_cons];omega
theorem qty(L:List Pl.Pt)(p:Pl.Pt):qb0 (L++[p])=qb0 L++qdh p:=by simp[qb0]
theorem qfr:∀(L:List Pl.Pt) (k:Nat) (p:Pl.Pt),L[k]?=some p→∀(j:Nat) (v:Value),(qdh p)[j]?=some v→(qb0 L)[k*4+j]?=some v
 | [],k,p,e=>by simp at e
 | q::L,0,p,e=>by
   simp only[List.getElem?_cons_zero,Option.some.injEq]at e;subst e;intro j v hv;show (qdh q++qb0 L)[0*4+j]?=some v;rw[Nat.zero_mul,Nat.zero_add,List.getElem?_append_left (List.getElem?_eq_some_iff.1 hv).1];exact hv
 | q::L,k+1,p,e=>by
   intro j v hv;have:=qfr L k p (by simpa using e) j v hv;show (qdh q++qb0 L)[(k+1)*4+j]?=some v;rw[List.getElem?_append_right (by simp[qdh];omega)];have e:(k+1)*4+j - (qdh q).length=k*4+j:=by simp[qdh];omega
   rw[e];exact this
theorem qmv:∀(L:List Pl.Pt) (m n:Nat),m<L.length→(qb0 L).set (m*4+3) (.int .i64 n)=qb0 (Pl.qbc L m n)
 | [],m,n,h=>by simp at h
 | q::L,0,n,_=>rfl
 | q::L,m+1,n,h=>by
   have ih:=qmv L m n (by simpa using h);have e:Pl.qbc (q::L) (m+1) n=q::Pl.qbc L m n:=by simp[Pl.qbc]
   rw[e];show (qdh q++qb0 L).set ((m+1)*4+3) _=qdh q++qb0 (Pl.qbc L m n);rw[List.set_append_right _ _ (by simp[qdh];omega)];have e2:(m+1)*4+3 - (qdh q).length=m*4+3:=by simp[qdh];omega
   rw[e2,ih]
def qby(L:List Nat):List Value:=L.map fun(n:Nat)=>Value.int .i64 (n:Int)
theorem qac{w w':World}{B n k:Nat}{e:TypeId}{v:Value}{xs:List Value}(h:w.ownsRow B e k v n xs)(hb:∀g,v.ownBlock=some g→w'.heap[g]?=w.heap[g]?):w'.ownsRow B e k v n xs:=by
 refine⟨h.1,?_⟩;rcases h.2 with h0 | ⟨g,cap,cur,hv,ha,hg,rest⟩
 ·exact .inl h0
 ·exact .inr ⟨g,cap,cur,hv,ha,(hb g (by rw[hv];rfl)).trans hg,rest⟩
theorem qad{w:World}{B n k:Nat}{e:TypeId}{v:Value}{xs:List Value}(h:w.ownsRow B e k v n xs)(g:Nat)(hg:v.ownBlock=some g):∃cur,w.heap[g]?=some (.cells cur e (0,0)):=by
 rcases h.2 with ⟨rfl,_⟩ | ⟨g',cap,cur,rfl,_,hh,_⟩
 ·simp[Value.ownBlock]at hg
 ·simp[Value.ownBlock]at hg
  subst hg;exact⟨cur,hh⟩
theorem qaj{w:World}{B n k:Nat}{e:TypeId}{v:Value}{xs:List Value}(h:w.ownsRow B e k v n xs)(hn:0<n):∃g cap,v=.slice (some ⟨g,0,none⟩) n cap∧B≤g∧g<w.heap.size:=by
 rcases h.2 with ⟨_,h0⟩ | ⟨g,cap,cur,hv,ha,hg,rest⟩
 ·omega
 ·exact⟨g,cap,hv,ha,(Array.getElem?_eq_some_iff.1 hg).1⟩
theorem qi3{w:World}{B n k:Nat}{e:TypeId}{g cap:Nat}{xs:List Value}(h:w.ownsRow B e k (.slice (some ⟨g,0,none⟩) n cap) n xs)(m:Nat)(hm:m≤n):w.ownsRow B e k (.slice (some ⟨g,0,none⟩) m cap) m (xs.take (m*k)):=by
 have ha:m*k≤n*k:=Nat.mul_le_mul_right k hm;refine⟨by rw[List.length_take,h.1];omega,?_⟩;rcases h.2 with ⟨h0,_⟩ | ⟨g',cap',cur,hv,Ha,hg,h1,h2,h3,h4⟩
 ·cases h0
 ·injection hv with e1 e2 e3
  injection e1 with e1;injection e1 with e1;subst e1 e3;exact .inr ⟨g,cap,cur,rfl,Ha,hg,by omega,h2,h3,by rw[←h4,List.take_take,Nat.min_eq_left ha]⟩
structure CtAt(w:World)(B g:Nat)(t:List UInt8)(c:Pl.Ct)(vp vo:Value):Prop where
 blk:w.heap[g]?=some (.cells #[bs t,bs c.op,bs c.cl,vp,vo] 222 (0,0))
 parts:w.ownsRow B 229 4 vp c.parts.length (qb0 c.parts)
 opened:w.ownsRow B 3 1 vo c.opened.length (qby c.opened)
 le:B≤g
structure Cur(B g:Nat)(w w':World):Prop where
 below:Below B w w'
 keep:∀k cs t fz,w.heap[k]?=some (.cells cs t fz)→k≠g→t≠229→t≠3→w'.heap[k]?=w.heap[k]?
theorem Cur.refl(B g:Nat)(w:World):Cur B g w w:=⟨Below.refl _ _,fun _ _ _ _ _ _ _ _=>rfl⟩
theorem Cur.trans{B g:Nat}{a b c:World}(h:Cur B g a b)(k:Cur B g b c):Cur B g a c:=
 ⟨h.below.trans k.below,fun i cs t fz hi h1 h2 h3=>(k.keep i cs t fz ((h.keep i cs t fz hi h1 h2 h3).trans hi) h1 h2 h3).trans (h.keep i cs t fz hi h1 h2 h3)⟩
theorem Cur.of_below{B g:Nat}{w w':World}(h:Below w.heap.size w w')(hB:B≤w.heap.size):Cur B g w w':=
 ⟨h.mono hB,fun k _ _ _ hk _ _ _=>h.block k (Array.getElem?_eq_some_iff.1 hk).1⟩
theorem CtAt.lt{w:World}{B g:Nat}{t:List UInt8}{c:Pl.Ct}{vp vo:Value}(h:CtAt w B g t c vp vo):g<w.heap.size:=(lta h.blk)
theorem CtAt.kept{w w':World}{B g:Nat}{t:List UInt8}{c:Pl.Ct}{vp vo:Value}(h:CtAt w B g t c vp vo)(hb:∀k,k<w.heap.size→w'.heap[k]?=w.heap[k]?):CtAt w' B g t c vp vo:=
 ⟨(hb g h.lt).trans h.blk,qac h.parts fun k hk=>hb k (h.parts.lt k hk).2,qac h.opened fun k hk=>hb k (h.opened.lt k hk).2,h.le⟩
theorem CtAt.below{w w':World}{B g:Nat}{t:List UInt8}{c:Pl.Ct}{vp vo:Value}(h:CtAt w B g t c vp vo)(hb:Below w.heap.size w w'):CtAt w' B g t c vp vo:=h.kept hb.block
theorem CtAt.alloc{w:World}{B g:Nat}{t:List UInt8}{c:Pl.Ct}{vp vo:Value}(h:CtAt w B g t c vp vo)(o:Obj):CtAt (w.alloc o) B g t c vp vo:=h.kept fun _ hk=>heap_alloc_old w o hk
theorem CtAt.cell{w:World}{B g:Nat}{t:List UInt8}{c:Pl.Ct}{vp vo:Value}(h:CtAt w B g t c vp vo):∀(j:Nat) (v:Value),[bs t,bs c.op,bs c.cl,vp,vo][j]?=some v→w.cell? ⟨g,j,none⟩=some v:=fun j v hv=>qaa h.blk j v hv
theorem CtAt.thaw{w:World}{B g:Nat}{t:List UInt8}{c:Pl.Ct}{vp vo:Value}(h:CtAt w B g t c vp vo)(j:Nat):w.frozen? ⟨g,j,none⟩=false:=by simp[World.frozen?,h.blk]
theorem qfp:(222:TypeId)≠229:=by decide
theorem qhq:(222:TypeId)≠3:=by decide
theorem qkb:(229:TypeId)≠3:=by decide
theorem qae{w:World}{k l:Nat}{cs cs':Array Value}{t t':TypeId}{fz fz':Nat×Nat}(h:w.heap[k]?=some (.cells cs t fz))(h':w.heap[l]?=some (.cells cs' t' fz'))(ha:t≠t'):k≠l:=by
 rintro rfl;rw[h]at h';simp only[Option.some.injEq,Obj.cells.injEq]at h';exact ha h'.2.1
theorem CtAt.more{w w':World}{B g:Nat}{t:List UInt8}{c:Pl.Ct}{vp vo vp':Value}(h:CtAt w B g t c vp vo)(p:Pl.Pt)(hb:w'.ownsRow B 229 4 vp' (c.parts.length+1) (qb0 c.parts++qdh p))(ha:w.grownBy w' vp.ownBlock) :
  CtAt (w'.setCell ⟨g,3,none⟩ vp') B g t { c with parts:=c.parts++[p] } vp' vo∧Cur B g w (w'.setCell ⟨g,3,none⟩ vp'):=by
 have Hc:∀k,vp.ownBlock=some k→g≠k:=fun k hk=>by
  obtain⟨cur,hc⟩:=qad h.parts k hk;exact qae h.blk hc qfp
 have he:∀k l,vo.ownBlock=some k→vp.ownBlock=some l→k≠l:=fun k l hk hl=>by
  obtain⟨cur,hc⟩:=qad h.opened k hk;obtain⟨cur',He⟩:=qad h.parts l hl;exact fun e=>qae He hc qkb e.symm
 have Hb:w'.heap[g]?=some (.cells #[bs t,bs c.op,bs c.cl,vp,vo] 222 (0,0)):=(ha.block g h.lt (fun e=>Hc g e.symm rfl)).trans h.blk;have Ha:∀k,k≠g→(w'.setCell ⟨g,3,none⟩ vp').heap[k]?=w'.heap[k]?:=fun k hk=>Below.heap_setCell _ _ _ _ hk;have hf:∀k,vp'.ownBlock=some k→k≠g:=fun k hk=>by
  obtain⟨cur,hc⟩:=qad hb k hk;exact fun e=>qae Hb hc qfp e.symm
 refine⟨⟨?_,?_,?_,h.le⟩,⟨?_,?_⟩⟩
 ·rw[heap_setCell_same _ _ _ _ _ _ Hb];rfl
 ·have e:({ c with parts:=c.parts++[p] }:Pl.Ct).parts.length=c.parts.length+1:=by simp
  rw[e];show World.ownsRow _ _ _ _ _ _ (qb0 (c.parts++[p]));rw[qty];exact qac hb fun k hk=>Ha k (hf k hk)
 ·refine qac h.opened fun k hk=>?_
  have Hf:=(h.opened.lt k hk).2;obtain⟨cur,hc⟩:=qad h.opened k hk;refine(Ha k (fun e=>qae h.blk hc qhq e.symm)).trans (ha.block k Hf (fun e=>he k k hk e.symm rfl))
 ·refine Below.trans ⟨ha.os,ha.tape,ha.output,ha.size,fun k hk=>ha.block k (by have:=h.lt;have:=h.le;omega) (fun e=>by have:=(h.parts.lt k e.symm).1;omega)⟩ ((Below.refl _ _).setCell (p:=⟨g,3,none⟩) h.le _)
 ·intro k cs ty fz hk h1 h2 h3
  refine(Ha k h1).trans (ha.block k (Array.getElem?_eq_some_iff.1 hk).1 (fun e=>?_));obtain⟨cur,hc⟩:=qad h.parts k e.symm;exact qae hk hc h2 rfl
theorem CtAt.push{w w':World}{B g:Nat}{t:List UInt8}{c:Pl.Ct}{vp vo vo':Value}(h:CtAt w B g t c vp vo)(n:Nat)(hb:w'.ownsRow B 3 1 vo' (c.opened.length+1) (qby c.opened++[.int .i64 n]))(ha:w.grownBy w' vo.ownBlock) :
  CtAt (w'.setCell ⟨g,4,none⟩ vo') B g t { c with opened:=c.opened++[n] } vp vo'∧Cur B g w (w'.setCell ⟨g,4,none⟩ vo'):=by
 have Hc:∀k,vo.ownBlock=some k→g≠k:=fun k hk=>by
  obtain⟨cur,hc⟩:=qad h.opened k hk;exact qae h.blk hc qhq
 have he:∀k l,vp.ownBlock=some k→vo.ownBlock=some l→k≠l:=fun k l hk hl=>by
  obtain⟨cur,hc⟩:=qad h.parts k hk;obtain⟨cur',He⟩:=qad h.opened l hl;exact qae hc He qkb
 have Hb:w'.heap[g]?=some (.cells #[bs t,bs c.op,bs c.cl,vp,vo] 222 (0,0)):=(ha.block g h.lt (fun e=>Hc g e.symm rfl)).trans h.blk;have Ha:∀k,k≠g→(w'.setCell ⟨g,4,none⟩ vo').heap[k]?=w'.heap[k]?:=fun k hk=>Below.heap_setCell _ _ _ _ hk;have hf:∀k,vo'.ownBlock=some k→k≠g:=fun k hk=>by
  obtain⟨cur,hc⟩:=qad hb k hk;exact fun e=>qae Hb hc qhq e.symm
 refine⟨⟨?_,?_,?_,h.le⟩,⟨?_,?_⟩⟩
 ·rw[heap_setCell_same _ _ _ _ _ _ Hb];rfl
 ·refine qac h.parts fun k hk=>?_
  have Hf:=(h.parts.lt k hk).2;obtain⟨cur,hc⟩:=qad h.parts k hk;refine(Ha k (fun e=>qae h.blk hc qfp e.symm)).trans (ha.block k Hf (fun e=>he k k hk e.symm rfl))
 ·have e:({ c with opened:=c.opened++[n] }:Pl.Ct).opened.length=c.opened.length+1:=by simp
  rw[e];have e2:qby ({ c with opened:=c.opened++[n] }:Pl.Ct).opened=qby c.opened++[.int .i64 n]:=by simp[qby]
  rw[e2];exact qac hb fun k hk=>Ha k (hf k hk)
 ·refine Below.trans ⟨ha.os,ha.tape,ha.output,ha.size,fun k hk=>ha.block k (by have:=h.lt;have:=h.le;omega) (fun e=>by have:=(h.opened.lt k e.symm).1;omega)⟩ ((Below.refl _ _).setCell (p:=⟨g,4,none⟩) h.le _)
 ·intro k cs ty fz hk h1 h2 h3
  refine(Ha k h1).trans (ha.block k (Array.getElem?_eq_some_iff.1 hk).1 (fun e=>?_));obtain⟨cur,hc⟩:=qad h.opened k e.symm;exact qae hk hc h3 rfl
structure CtTo(w w':World)(B g:Nat)(t:List UInt8)(c:Pl.Ct):Prop where
 ex:∃vp vo,CtAt w' B g t c vp vo
 cur:Cur B g w w'
theorem qc3(w:World)(cs:List Value)(t:TypeId):∀(j:Nat) (u:Value),cs[j]?=some u→(w.alloc (.cells cs.toArray t)).cell? ((⟨w.heap.size,0,none⟩:Addr).add j)=some u:=by
 intro j u hj;have:(⟨w.heap.size,0,none⟩:Addr).add j=⟨w.heap.size,j,none⟩:=by simp only[Addr.add,Nat.zero_add];split<;>simp_all
 rw[this];exact qaa (heap_alloc_new w _) j u (by simpa using hj)
theorem CtAt.ahead{w w0 w':World}{B g:Nat}{t:List UInt8}{c:Pl.Ct}{vp vo:Value}(h:CtAt w B g t c vp vo)(Ha:Below w.heap.size w w0){row:Option Nat}(ha:row=vp.ownBlock∨row=vo.ownBlock)(Hb:w0.grownBy w' row)(j:Nat)(v:Value)(hv:[bs t,bs c.op,bs c.cl,vp,vo][j]?=some v):w'.cell? ⟨g,j,none⟩=some v∧w'.frozen? ⟨g,j,none⟩=false:=by
 have Hc:some g≠row:=by
  rintro rfl;rcases ha with e | e
  ·obtain⟨cur,hc⟩:=qad h.parts g e.symm
   exact qae h.blk hc qfp rfl
  ·obtain⟨cur,hc⟩:=qad h.opened g e.symm
   exact qae h.blk hc qhq rfl
 have hb:w'.heap[g]?=some (.cells #[bs t,bs c.op,bs c.cl,vp,vo] 222 (0,0)):=(Hb.block g (Nat.lt_of_lt_of_le h.lt Ha.size) Hc).trans ((Ha.block g h.lt).trans h.blk);exact⟨qaa hb j v hv,by simp[World.frozen?,hb]⟩
theorem CtAt.moreTo{w w0 w':World}{B g:Nat}{t:List UInt8}{c:Pl.Ct}{vp vo vp':Value}(h:CtAt w B g t c vp vo)(Ha:Below w.heap.size w w0)(p:Pl.Pt)(ha:w'.ownsRow B 229 4 vp' (c.parts.length+1) (qb0 c.parts++qdh p))(hb:w0.grownBy w' vp.ownBlock) :
  CtTo w (w'.setCell ⟨g,3,none⟩ vp') B g t { c with parts:=c.parts++[p] }:=by
 obtain⟨h1,h2⟩:=(h.below Ha).more p ha hb;exact⟨⟨_,_,h1⟩,(Cur.of_below Ha (Nat.le_trans h.le (Nat.le_of_lt h.lt))).trans h2⟩
theorem qbr{P:Program}{ops:Array Oper}{o:Oper}{a:Act}{w:World}{K:Act→World→Prop}{Q:Exit→Act→World→Prop}{E:Prop}
  (hg:o.guard=none) (s x:Operand) (t:TypeId) (Hc:o.op=Op.call { callee:=Callee.builtin Builtin.append,args:=#[s,x],argTypes:=#[t,t] })
  (base:Nat) (e:TypeId) (i:TypeInfo) (z:Value) (size bytes:Nat) (ht:P.underlying t=some (.slice e)) (hi:P.info? e=some i) (hz:i.zero=some z)
  (Ha:i.size=size) (he:i.bytes=bytes) (He:z.cells.size=size) (hf:0<size)
  (v:Value) (n:Nat) (xs:List Value) (hs:a.eval s=v) (hc:w.ownsRow base e size v n xs)
  (ad:Addr) (m c:Nat) (news:List Value) (hx:a.eval x=.slice (some ad) m c) (hl:news.length=m*size) (hb:∀j u,news[j]?=some u→w.cell? (ad.add j)=some u) (h1:∀u∈news,u.oneCell'=true)
  (Hf:n+m≤maxLen) (ha:(n+m)*bytes≤140737488355328) (Hb:base≤w.heap.size)
  (hK:∀v' w',w'.ownsRow base e size v' (n+m) (xs++news)→w.grownBy w' v.ownBlock→(v'.ownBlock=v.ownBlock∨v'.ownBlock=some w.heap.size)→K (a.put o.dst v') w') :
  if Region.wanted o (yielded ops a.tmps)=true then Oper.wp P o a w K Q else E:=by
 have hw:Region.wanted o (yielded ops a.tmps)=true:=by simp[Region.wanted,hg]
 rw[if_pos hw];obtain⟨v',w',hr,h2,h3,h4,h5⟩:=run_append_own_at (P:=P) w base t o.type e i z size bytes ht hi hz Ha he He hf v n xs hc ad m c news hl hb h1 Hf ha Hb;unfold Oper.wp;simp[execOp,Hc,resolve,invoke,builtin,hs,hx,hr,Result.andThen];exact hK v' w' h2 h3 h5
def qea(o:Pl.Tg):Value:=.agg #[.int .i64 o.kind,.int .i64 o.slip,bs o.name,bs o.op,bs o.cl]
def qlv(o:Pl.Tg):Array Value:=#[.int .i64 o.kind,.int .i64 o.slip,bs o.name,bs o.op,bs o.cl]
theorem q1i(s:ByteArray)(h:0<s.size):∃b l,s.data.toList=b::l∧b=s[0]:=by
 have:=Pl.qrz s 0 h;exact⟨s[0],s.data.toList.drop 1,by simpa using this,rfl⟩
theorem qgi(s:ByteArray)(w:World) :
  Calls Tryz.prog 193 #[.string s] w fun e w'=>e=.returned (.int .i64 (Pl.qa0 s.data.toList))∧w=w':=by
 by_cases h0:s.size=0
 ·obtain rfl:s=⟨#[]⟩:=ByteArray.ext (Array.eq_empty_of_size_eq_zero h0)
  go_enter Tryz.func193,Tryz.ntmps193
  go_wp2_with fail
  go_ret
  exact⟨rfl,rfl⟩
 have c0:(s.toList.isEmpty)=false:=by
  rw[Lib.toList_data,List.isEmpty_eq_false_iff];intro q;apply h0;have:=congrArg List.length q;simpa using this
 obtain⟨b,l,hl,hb⟩:=q1i s (by omega);have c1:(0:Int)<(s.size:Int):=by omega
 have HV:Hid (Pl.qa0 s.data.toList=if s[0]=33 then 7 else if s[0]=61 then 8 else if s[0]=35 then 3 else if s[0]=94 then 4 else if s[0]=47 then 5 else if s[0]=62 then 6 else 2):=by
  show _=_;rw[hl];unfold Pl.qa0;rw[hb]
 have ne:∀n:UInt8,s[0]≠n→∀z:Int,z=n.toNat→¬(s[0].toNat:Int)=z:=fun n ha z hz q=>ha (UInt8.toNat_inj.1 (by omega));clear hl hb h0;by_cases d1:s[0]=33
 ·have e1:(s[0].toNat:Int)=33:=by rw[d1];rfl
  have HT:Hid (Pl.qa0 s.data.toList=7):=by show _=_;rw[HV.out,d1];rfl
  clear HV d1 ne;go_enter Tryz.func193,Tryz.ntmps193
  go_wp2_with fail
  go_ret
  exact⟨qan (by rw[HT.out];rfl),rfl⟩
 have e1:=ne 33 d1 33 rfl;by_cases d2:s[0]=61
 ·have e2:(s[0].toNat:Int)=61:=by rw[d2];rfl
  have HT:Hid (Pl.qa0 s.data.toList=8):=by show _=_;rw[HV.out,d2];rfl
  clear HV d1 d2 ne;go_enter Tryz.func193,Tryz.ntmps193
  go_wp2_with fail
  go_ret
  exact⟨qan (by rw[HT.out];rfl),rfl⟩
 have e2:=ne 61 d2 61 rfl;by_cases d3:s[0]=35
 ·have e3:(s[0].toNat:Int)=35:=by rw[d3];rfl
  have HT:Hid (Pl.qa0 s.data.toList=3):=by show _=_;rw[HV.out,d3];rfl
  clear HV d1 d2 d3 ne;go_enter Tryz.func193,Tryz.ntmps193
  go_wp2_with fail
  go_ret
  exact⟨qan (by rw[HT.out];rfl),rfl⟩
 have e3:=ne 35 d3 35 rfl;by_cases d4:s[0]=94
 ·have e4:(s[0].toNat:Int)=94:=by rw[d4];rfl
  have HT:Hid (Pl.qa0 s.data.toList=4):=by show _=_;rw[HV.out,d4];rfl
  clear HV d1 d2 d3 d4 ne;go_enter Tryz.func193,Tryz.ntmps193
  go_wp2_with fail
  go_ret
  exact⟨qan (by rw[HT.out];rfl),rfl⟩
 have e4:=ne 94 d4 94 rfl;by_cases d5:s[0]=47
 ·have e5:(s[0].toNat:Int)=47:=by rw[d5];rfl
  have HT:Hid (Pl.qa0 s.data.toList=5):=by show _=_;rw[HV.out,d5];rfl
  clear HV d1 d2 d3 d4 d5 ne;go_enter Tryz.func193,Tryz.ntmps193
  go_wp2_with fail
  go_ret
  exact⟨qan (by rw[HT.out];rfl),rfl⟩
 have e5:=ne 47 d5 47 rfl;by_cases d6:s[0]=62
 ·have e6:(s[0].toNat:Int)=62:=by rw[d6];rfl
  have HT:Hid (Pl.qa0 s.data.toList=6):=by show _=_;rw[HV.out,d6];rfl
  clear HV d1 d2 d3 d4 d5 d6 ne;go_enter Tryz.func193,Tryz.ntmps193
  go_wp2_with fail
  go_ret
  exact⟨qan (by rw[HT.out];rfl),rfl⟩
 have e6:=ne 62 d6 62 rfl;have HT:Hid (Pl.qa0 s.data.toList=2):=by show _=_;rw[HV.out,if_neg d1,if_neg d2,if_neg d3,if_neg d4,if_neg d5,if_neg d6]
 clear HV d1 d2 d3 d4 d5 d6 ne;go_enter Tryz.func193,Tryz.ntmps193
 go_wp2_with fail
 go_ret
 exact⟨qan (by rw[HT.out];rfl),rfl⟩
def qay(w:World):Prop:=∃m:Int,w.cell? ⟨11,0,none⟩=some (.int .i64 m)
theorem qay.below{w w':World}(h:qay w)(hb:Below w.heap.size w w'):qay w':=by
 obtain⟨m,hm⟩:=h;exact⟨m,(World.cell?_of_block (hb.block _ (World.block_lt_of_cell? _ _ hm))).trans hm⟩
theorem qsk(l:List UInt8)(h:l≠[46]):Pl.isNm l=(decide ((Lib.split l [46]).length≤4) && (Lib.split l [46]).all Pl.qa6):=by
 unfold Pl.isNm;rw[beq_eq_false_iff_ne.2 h];rfl
theorem q02(s:ByteArray)(w:World)(hs:s.size≤100000)(hm:qay w) :
  Calls Tryz.prog 230 #[.string s] w fun e w'=>e=.returned (.bool (Pl.isNm s.data.toList))∧Below w.heap.size w w':=by
 obtain⟨m,hm⟩:=hm;by_cases h0:s.data.toList=[46]
 ·obtain rfl:s=⟨#[46]⟩:=ByteArray.ext (Array.toList_inj.1 h0)
  clear hm;go_enter Tryz.func230,Tryz.ntmps230
  go_wp2_with fail
  go_ret
  exact⟨rfl,Below.refl _ _⟩
 have c0:(s.toList==[46])=false:=by rw[Lib.toList_data];exact beq_eq_false_iff_ne.2 h0
 have HV:=hd (qsk _ h0);have HS:=hd (Tryz.strings_Split s ⟨#[46]⟩ m w (by omega) hm (by decide));have ha:(Lib.splitB ⟨#[46]⟩ 0 (Lib.countB s ⟨#[46]⟩) s).length=Lib.countB s ⟨#[46]⟩+1:=Lib.splitB_all ⟨#[46]⟩ (by decide) 0 _ s rfl;have Ha:(Lib.splitB ⟨#[46]⟩ 0 (Lib.countB s ⟨#[46]⟩) s).map (·.data.toList)=Lib.split s.data.toList [46]:=Lib.splitB_data ⟨#[46]⟩ 0 _ s;have hc:Lib.countB s ⟨#[46]⟩≤s.size:=Lib.countB_le ⟨#[46]⟩ (by decide) _ s (Nat.le_refl _);clear hm h0;generalize Lib.countB s ⟨#[46]⟩=c at HS ha Ha hc;generalize Lib.splitB ⟨#[46]⟩ 0 c s=L at HS ha Ha;have HC:Hid (∀(k:Nat) (x:ByteArray),L[k]?=some x→(w.alloc (.cells (L.map Value.string).toArray 9)).cell? ⟨w.heap.size,k,none⟩=some (.string x)):=by
  intro k x hx;refine qaa (heap_alloc_new w _) k _ ?_;simp[hx]
 have HB:Hid (Below w.heap.size w (w.alloc (.cells (L.map Value.string).toArray 9))):=ba _;have Hb:(Lib.split s.data.toList [46]).length=c+1:=by rw[←Ha];simpa using ha
 have HA:Hid ((Lib.split s.data.toList [46]).all Pl.qa6=L.all (fun x=>Pl.qa6 x.data.toList)):=by show _=_;rw[←Ha,List.all_map];rfl
 rw[Hb]at HV;have HL:=hd ha;clear ha Ha Hb;by_cases h4:c+1≤4
 rotate_left
 ·have HT:Hid (Pl.isNm s.data.toList=false):=by show _=_;rw[HV.out,decide_eq_false h4];rfl
  have c4:(4:Int)<((c+1:Nat):Int):=by omega
  clear HV HA HC h4 HL;go_enter Tryz.func230,Tryz.ntmps230
  go_wp2_with (go_at_call 242;refine Calls.mono HS.out ?_;rintro e w' ⟨rfl,rfl⟩)
  go_ret
  exact⟨qbo HT.out.symm,HB.out⟩
 have HT:Hid (Pl.isNm s.data.toList=L.all (fun x=>Pl.qa6 x.data.toList)):=by show _=_;rw[HV.out,HA.out,decide_eq_true h4];rfl
 have c4:¬(4:Int)<((c+1:Nat):Int):=by omega
 clear HV HA;go_enter Tryz.func230,Tryz.ntmps230
 go_wp2_with (go_at_call 242;refine Calls.mono HS.out ?_;rintro e w' ⟨rfl,rfl⟩)
 generalize w.alloc (.cells (L.map Value.string).toArray 9)=W at HC HB ⊢;clear HS c0;go_loopw [15] (fun i wr=>∃k:Nat,k≤c+1∧i=.int .i64 k∧Hid ((L.take k).all (fun x=>Pl.qa6 x.data.toList)=true)∧wr=W) (fun i _=>c+1 - (intOf i).toNat)
 case atStart=>exact⟨0,Nat.zero_le _,rfl,rfl,rfl⟩
 case round=>
  obtain⟨k,hk,rfl,HN,rfl⟩:=hrel;by_cases he:k<c+1
  ·have Hc:k<L.length:=by have:=HL.out;omega
   have hx:L[k]?=some L[k]:=List.getElem?_eq_getElem Hc;have q0:=HC.out k _ hx;have HX:=hd hx;clear hx;generalize L[k]=X at q0 HX;by_cases hi:Pl.qa6 X.data.toList=true
   ·have hb:Hid ((L.take (k+1)).all (fun x=>Pl.qa6 x.data.toList)=true):=by
     show _=_;rw[List.take_add_one,HX.out,List.all_append,HN.out];simp[hi]
    clear HN HX;go_wp2_with (go_at_call 72;refine(qc5 X _).mono ?_;rintro e w' ⟨rfl,rfl⟩;rw[hi])
    go_roundw
    case rel=>exact⟨k+1,by omega,by go_num,hb,trivial⟩
    case measure=>simp[intOf];omega
   ·have hi:=Bool.eq_false_iff.2 hi
    have hb:Hid (L.all (fun x=>Pl.qa6 x.data.toList)=false):=by
     show _=_;rw[List.all_eq_false];exact⟨X,List.mem_of_getElem? HX.out,by rw[hi];decide⟩
    clear HN HX;go_wp2_with (go_at_call 72;refine(qc5 X _).mono ?_;rintro e w' ⟨rfl,rfl⟩;rw[hi])
    go_ret
    exact⟨qbo (by rw[HT.out,hb.out]),HB.out⟩
  ·have hb:Hid (L.all (fun x=>Pl.qa6 x.data.toList)=true):=by
    show _=_;have h1:=HN.out;rw[List.take_of_length_le (by have:=HL.out;omega)]at h1;exact h1
   clear HN;go_wp2
   go_ret
   exact⟨qbo (by rw[HT.out,hb.out]),HB.out⟩
theorem qlh:(Tryz.prog.info? 229).map (fun i=>(i.zero,i.size,i.bytes))=some (some (.agg #[.int .i64 0,.int .i64 0,.string ⟨#[]⟩,.int .i64 0]),4,40):=by kernel_rfl
theorem q3p:(Tryz.prog.info? 3).map (fun i=>(i.zero,i.size,i.bytes))=some (some (.int .i64 0),1,8):=by kernel_rfl
theorem qjq:(Value.agg #[.int .i64 0,.int .i64 0,.string ⟨#[]⟩,.int .i64 0]).cells.size=4:=rfl
theorem qgr(t:List UInt8)(a z:Nat):(⟨t.toArray⟩:ByteArray).extract a z=⟨((t.drop a).take (z - a)).toArray⟩:=by
 rw[Lib.extract_eq]
theorem qpo(w:World)(B g:Nat)(t:List UInt8)(c:Pl.Ct)(vp vo:Value)(a z:Nat)(h:CtAt w B g t c vp vo)(hz:z≤t.length)(hn:c.parts.length≤4000) :
  Calls Tryz.prog 147 #[.pointer (some ⟨g,0,none⟩),.int .i64 a,.int .i64 z] w fun e w'=>(∃r,e=.returned r)∧CtTo w w' B g t (c.addText t a z):=by
 by_cases Ha:a<z
 rotate_left
 ·have HV:Hid (c.addText t a z=c):=by show _=_;unfold Pl.Ct.addText;rw[if_neg Ha]
  have c1:¬(a:Int)<(z:Int):=by omega
  rw[HV.out];have H:=hd h;clear HV Ha h;go_enter Tryz.func147,Tryz.ntmps147
  go_wp2_with fail
  go_end0
  exact⟨⟨_,rfl⟩,⟨⟨vp,vo,H.out⟩,Cur.refl _ _ _⟩⟩
 have HV:Hid (c.addText t a z={ c with parts:=c.parts++[⟨1,a,(t.drop a).take (z - a),0⟩] }):=by show _=_;unfold Pl.Ct.addText;rw[if_pos Ha]
 rw[HV.out];obtain⟨T,hT⟩:∃T,T=(⟨t.toArray⟩:ByteArray):=⟨_,rfl⟩;have hf:T.size=t.length:=by rw[hT];simp[ByteArray.size]
 have HX:Hid (∀x:ByteArray,x=T.extract a z→Value.string x=bs ((t.drop a).take (z - a))):=by
  rintro x rfl;rw[hT,qgr];rfl
 obtain⟨i0,hi,Hb,hc,Hc⟩:=info_parts qlh;have c1:(a:Int)<(z:Int):=by omega
 have c2:(z:Int)≤(T.size:Int):=by omega
 have c3:(a:Int)≤(z:Int):=by omega
 have b0:=h.cell 0 _ rfl;have b3:=h.cell 3 _ rfl;have f3:=h.thaw 3;have b4:(w.alloc (.cells #[.int .i64 1,.int .i64 a,.string (T.extract a z),.int .i64 0] 229)).cell? ⟨g,3,none⟩=some vp:=(h.alloc _).cell 3 _ rfl;unfold bs at b0;rw[←hT]at b0;have he:B≤w.heap.size:=by have:=h.lt;have:=h.le;omega
 have H:=hd h;clear HV Ha h hT;go_enter Tryz.func147,Tryz.ntmps147
 go_wp2_with fail
 go_region_law (refine qbr rfl (.tmp 13) (.tmp 23) 168 rfl B 229 i0 (.agg #[.int .i64 0,.int .i64 0,.string ⟨#[]⟩,.int .i64 0]) 4 40 Tryz.underlying168 hi Hb hc Hc qjq (by decide) vp c.parts.length _ (by simp[Act.eval]) (World.ownsRow.alloc H.out.parts _) ⟨_,0,none⟩ 1 1 [.int .i64 1,.int .i64 a,.string (T.extract a z),.int .i64 0] (by simp[Act.eval]) rfl (qc3 _ _ _) (by simp[Value.oneCell']) (by unfold maxLen;omega) (by omega) (by simp;omega) ?_;intro v' w' ha hb He;obtain⟨g',cap',rfl,_,_⟩:=qaj ha (by omega);obtain⟨q3,r3⟩:=H.out.ahead ((ba _).drew) (.inl rfl) hb 3 _ rfl)
 all_goals
  go_end0
  rw[HX.out _ rfl]at ha;exact⟨⟨_,rfl⟩,H.out.moreTo ((ba _).drew) ⟨1,a,_,0⟩ ha hb⟩
end Go.Proofs.YtfkhljmiehdgmaaGreatDoor
