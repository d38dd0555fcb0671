/-
  Steps of the proof.
-/
import Derived.Test.YtfkhljmiehdgmaaGreatDoorCmBF
import Derived.Laws.Rows
set_option maxRecDepth 100000
set_option maxHeartbeats 40000000
namespace Go.Proofs.YtfkhljmiehdgmaaGreatDoor
open Go.RowKit
namespace Pl
theorem qza(l:List UInt8):(qdp l [61] 0=-1∧among 61 l=false)∨(0≤qdp l [61] 0∧among 61 l=true):=by
 by_cases h:among 61 l=true
 ·right
  refine⟨?_,h⟩;unfold qdp;rw[List.drop_zero];rcases Go.Lib.index_spec l [61]with ⟨_,q⟩ | ⟨i,q,_⟩
  ·obtain⟨i,hi⟩:=List.getElem?_of_mem (qg6.1 h)
   obtain⟨h1,h2⟩:=List.getElem?_eq_some_iff.1 hi;have:=q i (by omega);unfold Go.Lib.occAt at this;rw[List.drop_eq_getElem_cons h1,h2]at this;simp[List.isPrefixOf]at this
  ·rw[q,if_neg (by omega)];omega
 ·left
  have h:=Bool.eq_false_iff.2 h;refine⟨quq l [61] 0 (Nat.zero_le _) (fun j _ hj=>?_),h⟩;unfold Go.Lib.occAt;rw[Bool.eq_false_iff];intro q;have hj:j<l.length:=by simp only[List.length_cons,List.length_nil]at hj;omega
  rw[List.drop_eq_getElem_cons hj]at q;simp only[List.isPrefixOf,Bool.and_true,beq_iff_eq]at q;rw[qg6.2 (q▸List.getElem_mem hj)]at h;cases h
theorem q0i(c:ByteArray)(h:c.size<2∨∃q:0<c.size,c[c.size - 1]≠61):qc9 c.data.toList=⟨8,4,[],[],[]⟩:=by
 unfold qc9;refine if_pos ?_;have hl:c.data.toList.length=c.size:=rfl;rw[Bool.eq_false_iff];intro q;unfold Go.Lib.hasSuffix at q;have q:=List.isSuffixOf_iff_suffix.1 q;obtain⟨t,ht⟩:=q;have ha:=congrArg List.length ht;rw[List.length_append,List.length_drop]at ha;simp only[List.length_cons,List.length_nil]at ha;rcases h with h | ⟨h0,h⟩
 ·omega
 ·refine h ?_
  have e:(c.data.toList.drop 1)[c.size - 2]?=some 61:=by
   rw[←ht,List.getElem?_append_right (by omega),show c.size - 2 - t.length=0 by omega];rfl
  rw[List.getElem?_drop,show 1+(c.size - 2)=c.size - 1 by omega,qes c _ (by omega)]at e;exact Option.some.inj e
def dlOf:List (List UInt8)→Tg
 | [a,b]=>if qd5 a=true∧qd5 b=true then⟨8,0,[],a,b⟩ else⟨8,4,[],[],[]⟩
 | _=>⟨8,4,[],[],[]⟩
theorem qwo(c:ByteArray)(h2:2≤c.size)(h:c[c.size - 1]=61):qc9 c.data.toList=dlOf (qfo (c.extract 1 (c.size - 1)).data.toList):=by
 have hl:c.data.toList.length=c.size:=rfl;have e:c.data.toList.drop 1=(c.extract 1 (c.size - 1)).data.toList++[61]:=by
  rw[qck];show _=(c.data.toList.drop 1).take (c.size - 1 - 1)++[61];have h1:(c.data.toList.drop 1).length=c.size - 1:=by rw[List.length_drop,hl]
  have:=(List.take_append_drop (c.size - 2) (c.data.toList.drop 1)).symm;rw[show c.size - 1 - 1=c.size - 2 by omega];refine this.trans ?_
  congr 1
  rw[List.drop_drop,show 1+(c.size - 2)=c.size - 1 by omega,List.drop_eq_getElem_cons (by omega:c.size - 1<c.data.toList.length)];have:c.data.toList[c.size - 1]'(by omega)=61:=h;rw[this,show c.size - 1+1=c.data.toList.length by omega,List.drop_length]
 unfold qc9;have hs:Go.Lib.hasSuffix (c.data.toList.drop 1) [61]=true:=by
  unfold Go.Lib.hasSuffix;rw[e];exact List.isSuffixOf_iff_suffix.2 (List.suffix_append _ _)
 have ht:Go.Lib.trimSuffix (c.data.toList.drop 1) [61]=(c.extract 1 (c.size - 1)).data.toList:=by
  unfold Go.Lib.trimSuffix;rw[hs,if_pos rfl,e,List.length_append];simp
 rw[if_neg (by rw[hs];simp),ht];generalize qfo (c.extract 1 (c.size - 1)).data.toList=L
 match L with
 | []=>rfl
 | [_]=>rfl
 | [_,_]=>rfl
 | _::_::_::_=>rfl
theorem qh6:∀(l c:List UInt8),∀x∈qbn c l,x.length≤c.length+l.length
 | [],c,x,hx=>by
   unfold qbn at hx;split at hx
   ·cases hx
   ·rw[List.mem_singleton.1 hx];exact Nat.le_add_right _ _
 | b::l,c,x,hx=>by
   unfold qbn at hx;rw[List.length_cons];split at hx
   ·split at hx
    ·have:=qh6 l [] x hx
     simp only[List.length_nil]at this;omega
    ·rcases List.mem_cons.1 hx with rfl | hx
     ·omega
     ·have:=qh6 l [] x hx
      simp only[List.length_nil]at this;omega
   ·have:=qh6 l (c++[b]) x hx
    rw[List.length_append]at this;simp only[List.length_cons,List.length_nil]at this;omega
end Pl
theorem qxq(s:ByteArray)(w:World)(hs:s.size≤1000000) :
  Calls Tryz.prog 81 #[.string s,.string ⟨#[61]⟩,.int .i64 0] w fun e w'=>e=.returned (.int .i64 (Pl.qdp s.data.toList [61] 0))∧w=w':=
 qq4 s ⟨#[61]⟩ 0 w hs (by decide) (Nat.zero_le _)
theorem qgc.cell{B:Nat}{w:World}{L:List (List UInt8)}{g cap:Nat}(h:qgc B w (.slice (some ⟨g,0,none⟩) L.length cap) L)(j:Nat)(l:List UInt8)(hj:L[j]?=some l):w.cell? ⟨g,j,none⟩=some (.string ⟨l.toArray⟩):=by
 have h1:=(List.getElem?_eq_some_iff.1 hj).1;rw[World.ownsRow.cellAt h j (by rw[Nat.mul_one];exact h1)];unfold qke;rw[List.getElem?_map,hj];rfl
def q6u(r:Pl.Tg):Value:=.tuple #[.string ⟨r.op.toArray⟩,.string ⟨r.cl.toArray⟩,.bool (decide (r.slip=0))]
theorem q1c(s:ByteArray)(w:World)(hs:s.size≤1000000) :
  Calls Tryz.prog 87 #[.string s] w fun e w'=>e=.returned (q6u (Pl.qc9 s.data.toList))∧Below w.heap.size w w':=by
 by_cases hb:s.size<2∨∃q:0<s.size,s[s.size - 1]≠61
 ·rw[Pl.q0i s hb]
  by_cases h2:s.size<2
  ·have He:(s.size:Int)<2:=by omega
   clear hb;go_enter Tryz.func87,Tryz.ntmps87
   go_wp2
   (try simp only[Exit.inBlock,Exit.then]);refine bodyPost_ret (results_tmp3 rfl _ _ _) rfl ?_
   exact⟨rfl,Below.refl _ _⟩
  ·obtain⟨h0,hc⟩:=hb.resolve_left h2
   have He:¬(s.size:Int)<2:=by omega
   have h3:(0:Int)≤(s.size:Int) - 1:=by omega
   have hq:((s[s.size - 1].toNat:Int)==61)=false:=by
    have:=Pl.qh3 s[s.size - 1] 61 (by decide);rw[beq_eq_false_iff_ne.2 (show s[s.size - 1]≠UInt8.ofNat 61 from hc)]at this;exact this
   have hR:=hd hc;clear hb;go_enter Tryz.func87,Tryz.ntmps87
   go_wp2
   (try simp only[Exit.inBlock,Exit.then]);refine bodyPost_ret (results_tmp3 rfl _ _ _) rfl ?_
   exact⟨rfl,Below.refl _ _⟩
 have h2:2≤s.size:=by
  rcases Nat.lt_or_ge s.size 2 with q | q
  ·exact absurd (.inl q) hb
  ·exact q
 have hi:s.size - 1<s.size:=Nat.sub_lt (Nat.lt_of_lt_of_le (by decide) h2) (by decide);have hc:s[s.size - 1]'hi=61:=by
  by_cases q:s[s.size - 1]'hi=61
  ·exact q
  ·exact absurd (.inr ⟨by omega,q⟩) hb
 clear hb;have HR:=hd (Pl.qwo s h2 hc);have He:¬(s.size:Int)<2:=by omega
 have h3:(0:Int)≤(s.size:Int) - 1:=by omega
 have h4:(1:Int)≤(s.size:Int) - 1:=by omega
 have hq:(((s[s.size - 1]'hi).toNat:Int)==61)=true:=by rw[hc];rfl
 have hX:(s.extract 1 (s.size - 1)).size≤s.size:=by
  rw[qck,qbz,List.length_take,List.length_drop];have:s.data.toList.length=s.size:=rfl;omega
 have hW:=q1s (s.extract 1 (s.size - 1)) w (by omega);have Hb:Hid (∀x∈Pl.qfo (s.extract 1 (s.size - 1)).data.toList,x.length≤1000000):=fun x hx=>by
  have:=Pl.qh6 _ [] x hx;have e:(s.extract 1 (s.size - 1)).data.toList.length=(s.extract 1 (s.size - 1)).size:=rfl;rw[e]at this;simp only[List.length_nil]at this;omega
 generalize Pl.qfo (s.extract 1 (s.size - 1)).data.toList=L at HR hW Hb;have HW:=hd hW;clear hW hX;rw[HR.out];clear HR;have HC:=hd hc;clear hc;by_cases hf:L.length=2
 rotate_left
 ·have HD:Hid (Pl.dlOf L=⟨8,4,[],[],[]⟩):=by
   show _=_
   match L,hf with
   | [],_=>rfl
   | [_],_=>rfl
   | [_,_],h=>exact absurd rfl h
   | _::_::_::_,_=>rfl
  have Hg:((L.length:Int)==2)=false:=by rw[beq_eq_false_iff_ne];omega
  go_enter Tryz.func87,Tryz.ntmps87
  go_wp2_with (go_at_call 121;refine Calls.mono HW.out ?_;rintro e w1 ⟨⟨v,rfl,hO⟩,hB⟩;obtain⟨ao,cap,rfl⟩:=hO.slice)
  (try simp only[Exit.inBlock,Exit.then]);refine bodyPost_ret (results_tmp3 rfl _ _ _) rfl ?_
  exact⟨by rw[HD.out];rfl,hB⟩
 match L,hf with
 | [a,b],_=>
 have ha:=Hb.out a (by simp);have hb:=Hb.out b (by simp);clear Hb;obtain⟨A,hA⟩:∃A:ByteArray,A=⟨a.toArray⟩:=⟨_,rfl⟩;obtain⟨D,hD⟩:∃A:ByteArray,A=⟨b.toArray⟩:=⟨_,rfl⟩;have Hi:A.size=a.length:=by rw[hA];exact qbz a
 have hj:D.size=b.length:=by rw[hD];exact qbz b
 have zA:A.size≤1000000:=by omega
 have zD:D.size≤1000000:=by omega
 have Hc:A.data.toList=a:=by rw[hA]
 have he:D.data.toList=b:=by rw[hD]
 have Ha:Hid (∀w1 g cap,qgc w.heap.size w1 (.slice (some ⟨g,0,none⟩) 2 cap) [a,b]→w1.cell? ⟨g,0,none⟩=some (.string A)∧w1.cell? ⟨g,1,none⟩=some (.string D)):=by
  intro w1 g cap h;rw[hA,hD];exact⟨h.cell 0 a rfl,h.cell 1 b rfl⟩
 have HV:Hid (q6u (Pl.dlOf [a,b])=if(a.length≤3∧Pl.among 61 a=false)∧b.length≤3∧Pl.among 61 b=false then .tuple #[.string A,.string D,.bool true] else .tuple #[.string ⟨#[]⟩,.string ⟨#[]⟩,.bool false]):=by
  show _=_;rw[hA,hD];unfold Pl.dlOf Pl.qd5;simp only[Bool.and_eq_true,decide_eq_true_eq,Bool.not_eq_true'];split<;>rfl
 have oa:=Pl.qza A.data.toList;have ob:=Pl.qza D.data.toList;rw[Hc]at oa;rw[he]at ob;rw[←Hc]at oa;rw[←he]at ob;have Hf:Pl.among 61 A.data.toList=Pl.among 61 a:=by rw[Hc]
 have hg:Pl.among 61 D.data.toList=Pl.among 61 b:=by rw[he]
 rw[Hf]at oa;rw[hg]at ob;clear hA hD Hc he ha hb Hf hg;rw[HV.out];by_cases a3:a.length≤3
 rotate_left
 ·have q1:(A.size:Int) > 3:=by omega
  rw[if_neg (fun q=>a3 q.1.1)];clear HV oa ob;go_enter Tryz.func87,Tryz.ntmps87
  go_wp2_with (go_at_call 121;refine Calls.mono HW.out ?_;rintro e w1 ⟨⟨v,rfl,hO⟩,hB⟩;obtain⟨g,cap,rfl,_,_⟩:=qaj hO (Nat.zero_lt_succ _);obtain⟨c0,c1⟩:=Ha.out w1 g cap hO)
  (try simp only[Exit.inBlock,Exit.then]);refine bodyPost_ret (results_tmp3 rfl _ _ _) rfl ?_
  exact⟨rfl,hB⟩
 have q1:¬(A.size:Int) > 3:=by omega
 by_cases b3:b.length≤3
 rotate_left
 ·have q2:(D.size:Int) > 3:=by omega
  rw[if_neg (fun q=>b3 q.2.1)];clear HV oa ob;go_enter Tryz.func87,Tryz.ntmps87
  go_wp2_with (go_at_call 121;refine Calls.mono HW.out ?_;rintro e w1 ⟨⟨v,rfl,hO⟩,hB⟩;obtain⟨g,cap,rfl,_,_⟩:=qaj hO (Nat.zero_lt_succ _);obtain⟨c0,c1⟩:=Ha.out w1 g cap hO)
  (try simp only[Exit.inBlock,Exit.then]);refine bodyPost_ret (results_tmp3 rfl _ _ _) rfl ?_
  exact⟨rfl,hB⟩
 have q2:¬(D.size:Int) > 3:=by omega
 rcases oa with ⟨q3,oa⟩ | ⟨q3,oa⟩
 rotate_left
 ·rw[if_neg (fun q=>by rw[oa]at q;exact absurd q.1.2 (by simp))]
  have q3':Pl.qdp A.data.toList [61] 0≥0:=q3;clear q3;clear HV ob;go_enter Tryz.func87,Tryz.ntmps87
  go_wp2_with (first | (go_at_call 121;refine Calls.mono HW.out ?_;rintro e w1 ⟨⟨v,rfl,hO⟩,hB⟩;obtain⟨g,cap,rfl,_,_⟩:=qaj hO (Nat.zero_lt_succ _);obtain⟨c0,c1⟩:=Ha.out w1 g cap hO) | (go_at_call 81;refine(qxq _ _ (by first | exact zA | exact zD)).mono ?_;rintro e w2 ⟨rfl,rfl⟩))
  (try simp only[Exit.inBlock,Exit.then]);refine bodyPost_ret (results_tmp3 rfl _ _ _) rfl ?_
  exact⟨rfl,hB⟩
 have q3':¬Pl.qdp A.data.toList [61] 0≥0:=by omega
 clear q3;rcases ob with ⟨q4,ob⟩ | ⟨q4,ob⟩
 rotate_left
 ·rw[if_neg (fun q=>by rw[ob]at q;exact absurd q.2.2 (by simp))]
  have q4':Pl.qdp D.data.toList [61] 0≥0:=q4;clear q4;clear HV;go_enter Tryz.func87,Tryz.ntmps87
  go_wp2_with (first | (go_at_call 121;refine Calls.mono HW.out ?_;rintro e w1 ⟨⟨v,rfl,hO⟩,hB⟩;obtain⟨g,cap,rfl,_,_⟩:=qaj hO (Nat.zero_lt_succ _);obtain⟨c0,c1⟩:=Ha.out w1 g cap hO) | (go_at_call 81;refine(qxq _ _ (by first | exact zA | exact zD)).mono ?_;rintro e w2 ⟨rfl,rfl⟩))
  (try simp only[Exit.inBlock,Exit.then]);refine bodyPost_ret (results_tmp3 rfl _ _ _) rfl ?_
  exact⟨rfl,hB⟩
 rw[if_pos ⟨⟨a3,oa⟩,b3,ob⟩];have q4':¬Pl.qdp D.data.toList [61] 0≥0:=by omega
 clear q4;clear HV;go_enter Tryz.func87,Tryz.ntmps87
 go_wp2_with (first | (go_at_call 121;refine Calls.mono HW.out ?_;rintro e w1 ⟨⟨v,rfl,hO⟩,hB⟩;obtain⟨g,cap,rfl,_,_⟩:=qaj hO (Nat.zero_lt_succ _);obtain⟨c0,c1⟩:=Ha.out w1 g cap hO) | (go_at_call 81;refine(qxq _ _ (by first | exact zA | exact zD)).mono ?_;rintro e w2 ⟨rfl,rfl⟩))
 go_region
 all_goals
  go_wp2
  (try simp only[Exit.inBlock,Exit.then]);refine bodyPost_ret (results_tmp3 rfl _ _ _) rfl ?_
  exact⟨rfl,by first | exact hB | exact hB.drew | exact Below.drewN hB _⟩
namespace Pl
def qcc(b:UInt8):Nat:=if b=35 then 0 else if b=94 then 1 else if b=47 then 2 else if b=62 then 3 else 4
def qbg(k:Nat):Int:=if k=1 then 0 else if k=2 then 1 else if k=3∨k=4 then 2 else if k=5 then 3 else 4
def qfm(i:Nat):Int:=if i=0 then 2 else if i=1 then 2 else if i=2 then 3 else if i=3 then 4 else 1
def qi2(i:Nat)(c:List UInt8):List UInt8:=if i<4 then Go.Lib.trimS (c.drop 1) qah else c
def pcOk(i:Nat)(c:List UInt8):Bool:=if i=3 then qa6 (qi2 i c) else isNm (qi2 i c)
theorem q3f(b:UInt8):qcc b≤4:=by
 unfold qcc;repeat' split
 all_goals omega
theorem q47{x:UInt8}{t cs:List UInt8}(h:Go.Lib.trimRightS (x::t) cs=x::t):Go.Lib.trimRightS t cs=t:=by
 rw[qrv]at h;split at h
 ·next q=>
  split at h
  ·cases h
  ·injection h with _ h
   rw[←h];rfl
 ·injection h
theorem q46{x:UInt8}{t:List UInt8}(h:Go.Lib.trimRightS (x::t) qah=x::t):Go.Lib.trimS t qah=Go.Lib.trimLeftS t qah:=by
 unfold Go.Lib.trimS;rw[q47 h]
theorem qkj(b:UInt8)(l:List UInt8)(ha:b≠33)(Ha:b≠61)(hR:Go.Lib.trimRightS (b::l) qah=b::l) :
  qbg (qa9 (b::l)).kind=qfm (qcc b)∧(qa9 (b::l)).slip=(if pcOk (qcc b) (b::l)=true then 0 else 3)∧((qa9 (b::l)).slip=0→(qa9 (b::l)).name=qi2 (qcc b) (b::l))∧decide ((qa9 (b::l)).kind=4)=decide (qcc b=1):=by
 have hl:=q46 hR;have e:qa0 (b::l)=if b=35 then 3 else if b=94 then 4 else if b=47 then 5 else if b=62 then 6 else 2:=by
  show (if b=33 then 7 else if b=61 then 8 else _)=_;rw[if_neg ha,if_neg Ha]
 have key:∀(k:Nat) (n:List UInt8),(qb9 k n).kind=k∧(qb9 k n).slip=(if(if k=6 then qa6 n else isNm n)=true then 0 else 3)∧((qb9 k n).slip=0→(qb9 k n).name=n):=by
  intro k n;unfold qb9;by_cases q:(if k=6 then qa6 n else isNm n)=true
  ·rw[if_pos q,if_pos q];exact⟨rfl,rfl,fun _=>rfl⟩
  ·rw[if_neg q,if_neg q];exact⟨rfl,rfl,fun z=>by cases z⟩
 unfold qa9;rw[e];unfold qcc pcOk qi2;by_cases c1:b=35
 ·simp only[c1,if_true]
  obtain⟨k1,k2,k3⟩:=key 3 (Go.Lib.trimLeftS l qah);refine⟨?_,?_,fun q=>(k3 q).trans ?_,?_⟩
  all_goals simp[k1,k2,hl,qbg,qfm]
 by_cases c2:b=94
 ·simp only[c2]
  obtain⟨k1,k2,k3⟩:=key 4 (Go.Lib.trimLeftS l qah);refine⟨?_,?_,fun q=>(k3 q).trans ?_,?_⟩
  all_goals simp[k1,k2,hl,qbg,qfm]
 by_cases c3:b=47
 ·simp only[c3]
  obtain⟨k1,k2,k3⟩:=key 5 (Go.Lib.trimLeftS l qah);refine⟨?_,?_,fun q=>(k3 q).trans ?_,?_⟩
  all_goals simp[k1,k2,hl,qbg,qfm]
 by_cases c4:b=62
 ·simp only[c4]
  obtain⟨k1,k2,k3⟩:=key 6 (Go.Lib.trimLeftS l qah);refine⟨?_,?_,fun q=>(k3 q).trans ?_,?_⟩
  all_goals simp[k1,k2,hl,qbg,qfm]
 ·simp only[if_neg c1,if_neg c2,if_neg c3,if_neg c4]
  obtain⟨k1,k2,k3⟩:=key 2 (b::l);refine⟨?_,?_,fun q=>(k3 q).trans ?_,?_⟩
  all_goals simp[k1,k2,qbg,qfm]
end Pl
def qb8(kd:Int)(a:Nat)(tx:ByteArray)(pv:Value)(tn:Bool)(en:Int):Array Value:=#[.int .i64 kd,.int .i64 a,.string tx,pv,.bool tn,.int .i64 en]
structure PcM(w0 w:World)(kd:Int)(a:Nat)(tx:ByteArray)(pv:Value)(tn:Bool):Prop where
 blk:w.heap[w0.heap.size+1]?=some (.cells (qb8 kd a tx pv tn 0) 136 (0,0))
 res:qfl w w0.heap.size
 kin:w.heap[w0.heap.size+1+1]?=some (.cells #[.int .i64 2,.int .i64 2,.int .i64 3,.int .i64 4] 3 (0,0))
 below:Below w0.heap.size w0 w
 sz:w0.heap.size+3≤w.heap.size
theorem PcM.kept{w0 w w':World}{kd:Int}{a:Nat}{tx:ByteArray}{pv:Value}{tn:Bool}(h:PcM w0 w kd a tx pv tn)(hb:Below w.heap.size w w'):PcM w0 w' kd a tx pv tn:=by
 have:=h.sz;exact⟨(hb.block _ (by omega)).trans h.blk,h.res.kept hb (by omega),(hb.block _ (by omega)).trans h.kin,h.below.trans (hb.mono (by omega)),Nat.le_trans h.sz hb.size⟩
theorem qoo(w:World)(g:Nat)(kd:Int)(a:Nat)(tx:ByteArray)(pv:Value)(tn:Bool)(h:w.heap[g]?=some (.cells (qb8 kd a tx pv tn 0) 136 (0,0))) :
  (∀z,(w.setCell ⟨g,0,none⟩ (.int .i64 z)).heap[g]?=some (.cells (qb8 z a tx pv tn 0) 136 (0,0))) ∧
  (∀z,(w.setCell ⟨g,2,none⟩ (.string z)).heap[g]?=some (.cells (qb8 kd a z pv tn 0) 136 (0,0))) ∧
  (∀z,(w.setCell ⟨g,3,none⟩ z).heap[g]?=some (.cells (qb8 kd a tx z tn 0) 136 (0,0))) ∧
  (∀z,(w.setCell ⟨g,4,none⟩ (.bool z)).heap[g]?=some (.cells (qb8 kd a tx pv z 0) 136 (0,0))):=
 ⟨fun _=>heap_setCell_same w g 0 _ _ _ h,fun _=>heap_setCell_same w g 2 _ _ _ h,fun _=>heap_setCell_same w g 3 _ _ _ h,fun _=>heap_setCell_same w g 4 _ _ _ h⟩
theorem PcM.set{w0 w:World}{kd:Int}{a:Nat}{tx:ByteArray}{pv:Value}{tn:Bool}(h:PcM w0 w kd a tx pv tn)(j:Nat)(v:Value){kd':Int}{tx':ByteArray}{pv':Value}{tn':Bool}
  (hb:(w.setCell ⟨w0.heap.size+1,j,none⟩ v).heap[w0.heap.size+1]?=some (.cells (qb8 kd' a tx' pv' tn' 0) 136 (0,0))):PcM w0 (w.setCell ⟨w0.heap.size+1,j,none⟩ v) kd' a tx' pv' tn':=by
 have hs:(w.setCell ⟨w0.heap.size+1,j,none⟩ v).heap.size=w.heap.size:=by simp
 refine⟨hb,?_,(heap_setCell_other _ _ _ _ (by simp)).trans h.kin,h.below.setCell (by simp) _,by rw[hs];exact h.sz⟩;obtain⟨cs,t,h1,h2⟩:=h.res;exact⟨cs,t,(heap_setCell_other _ _ _ _ (by simp)).trans h1,h2⟩
theorem PcM.cells{w0 w:World}{kd:Int}{a:Nat}{tx:ByteArray}{pv:Value}{tn:Bool}(h:PcM w0 w kd a tx pv tn):∀(j:Nat) (v:Value),(qb8 kd a tx pv tn 0).toList[j]?=some v→w.cell? ⟨w0.heap.size+1,j,none⟩=some v:=qaa h.blk
theorem PcM.kinds{w0 w:World}{kd:Int}{a:Nat}{tx:ByteArray}{pv:Value}{tn:Bool}(h:PcM w0 w kd a tx pv tn)(i:Nat)(hi:i<4):w.cell? ⟨w0.heap.size+1+1,i,none⟩=some (.int .i64 (Pl.qfm i)):=by
 have:=qaa h.kin
 match i,hi with
 | 0,_=>exact this 0 _ rfl
 | 1,_=>exact this 1 _ rfl
 | 2,_=>exact this 2 _ rfl
 | 3,_=>exact this 3 _ rfl
theorem PcM.thaw{w0 w:World}{kd:Int}{a:Nat}{tx:ByteArray}{pv:Value}{tn:Bool}(h:PcM w0 w kd a tx pv tn)(j:Nat):w.frozen? ⟨w0.heap.size+1,j,none⟩=false:=frozen_of_row w _ j _ _ h.blk
theorem qo3:(Tryz.prog.info? 136).map (·.size)=some 6:=by kernel_rfl
theorem zae(w:World)(o:Obj)(a:Addr)(h:a.block<w.heap.size):(w.alloc o).cell? a=w.cell? a:=by
 unfold World.cell?;rw[heap_alloc_old w o h]
theorem qln{P:Program}{fn:Func}{R:Ending→World→Prop}{a:Act}{w:World}{u p:Tmp}{ty:TypeId}(h:fn.results=#[.cell p ty,.tmp u])(g:Nat)(d:TypeDesc)(hu:P.underlying ty=some d)(hd:aggD d=true)(cs:Array Value)(hi:(P.info? ty).map (·.size)=some cs.size)
  (hp:a.tmps.getD p undef=.pointer (some ⟨g,0,none⟩)) (hg:∀j v,cs.toList[j]?=some v→w.cell? ⟨g,j,none⟩=some v) (ha:a.defers=[]) (y:Value) (hy:a.tmps.getD u undef=y) (hR:R (.returned (.tuple #[.agg cs,y])) w):bodyPost P fn R .ret a w:=by
 subst hy;exact bodyPost_ret (qis h a.tmps _ g _ d hp hg hu hd hi) ha hR
theorem q25(a:Nat)(w:World) :
  Calls Tryz.prog 83 #[.string ⟨#[]⟩,.int .i64 a] w fun e w'=>e=.returned (.tuple #[.agg (qb8 1 a ⟨#[]⟩ (.slice none 0 0) false 0),.int .i64 3])∧Below w.heap.size w w':=by
 go_enter Tryz.func83,Tryz.ntmps83
 go_wp2_with fail
 refine qln Tryz.results83 w.heap.size _ Tryz.underlying136 rfl (qb8 1 a ⟨#[]⟩ (.slice none 0 0) false 0) qo3 rfl ?_ rfl _ rfl ?_
 ·intro j v hj
  rw[zae _ _ _ (by simp)];exact qaa (heap_alloc_new w _) j v hj
 ·exact⟨rfl,(ba _).alloc (by simp) _⟩
theorem qqn(c:ByteArray)(a:Nat)(w:World)(hc:c.size≤1000000)(h0:0<c.size) :
  Calls Tryz.prog 83 #[.string c,.int .i64 a] w fun e w'=>(∃ao n cap,e=.returned (.tuple #[.agg (qb8 (Pl.qfm (Pl.qcc c[0])) a ⟨(Pl.qi2 (Pl.qcc c[0]) c.data.toList).toArray⟩ (.slice ao n cap) (decide (Pl.qcc c[0]=1)) 0),.int .i64 (if Pl.pcOk (Pl.qcc c[0]) c.data.toList=true then 0 else 3)]))∧Below w.heap.size w w':=by
 have Hn:(c.toList==[])=false:=by
  rw[ByteArray.toList_eq,beq_eq_false_iff_ne];intro e;have:c.data.toList.length=c.size:=rfl;rw[e]at this;simp at this;omega
 have Hk:=Pl.q3f c[0];have HM:Hid (∀k:Nat,k<4→∀(h:k<(⟨#[35,94,47,62]⟩:ByteArray).size),((c[0].toNat:Int)==((⟨#[35,94,47,62]⟩:ByteArray)[k].toNat:Int))=decide (k=Pl.qcc c[0])):=by
  intro k hk h;rw[Pl.beq8,Bool.eq_iff_iff,beq_iff_eq,decide_eq_true_iff];have hm:∀b:UInt8,((b=35)↔Pl.qcc b=0)∧((b=94)↔Pl.qcc b=1)∧((b=47)↔Pl.qcc b=2)∧((b=62)↔Pl.qcc b=3):=by
   have:∀n∈List.range 256,((UInt8.ofNat n=35)↔Pl.qcc (UInt8.ofNat n)=0)∧((UInt8.ofNat n=94)↔Pl.qcc (UInt8.ofNat n)=1)∧((UInt8.ofNat n=47)↔Pl.qcc (UInt8.ofNat n)=2)∧((UInt8.ofNat n=62)↔Pl.qcc (UInt8.ofNat n)=3):=by decide +kernel
   intro b;have:=this b.toNat (List.mem_range.2 b.toNat_lt)
   rwa [UInt8.ofNat_toNat]at this
  obtain⟨m0,m1,m2,m3⟩:=hm c[0]
  match k,hk with
  | 0,_=>exact m0.trans ⟨fun q=>q.symm,fun q=>q.symm⟩
  | 1,_=>exact m1.trans ⟨fun q=>q.symm,fun q=>q.symm⟩
  | 2,_=>exact m2.trans ⟨fun q=>q.symm,fun q=>q.symm⟩
  | 3,_=>exact m3.trans ⟨fun q=>q.symm,fun q=>q.symm⟩
 have H0:Hid (∀W0,((w.alloc (.cells #[.int .i64 0,.int .i64 0,.string ⟨#[]⟩,.slice none 0 0,.bool false,.int .i64 0] 136)).alloc (.cells #[.int .i64 1,.int .i64 a,.string c,.slice none 0 0,.bool false,.int .i64 0] 136)).alloc (.cells #[.int .i64 2,.int .i64 2,.int .i64 3,.int .i64 4] 3)=W0→PcM w W0 1 a c (.slice none 0 0) false):=by
  rintro W0 rfl;refine⟨?_,?_,?_,((ba _).alloc (by simp) _).alloc (by rw[qkg,qkg];omega) _,by simp⟩
  ·rw[heap_alloc_old _ _ (by simp)]
   have:=heap_alloc_new (w.alloc (.cells #[.int .i64 0,.int .i64 0,.string ⟨#[]⟩,.slice none 0 0,.bool false,.int .i64 0] 136)) (.cells #[.int .i64 1,.int .i64 a,.string c,.slice none 0 0,.bool false,.int .i64 0] 136);rw[qkg]at this;exact this
  ·exact((qof w _ _ _ rfl rfl).alloc _).alloc _
  ·have:=heap_alloc_new ((w.alloc (.cells #[.int .i64 0,.int .i64 0,.string ⟨#[]⟩,.slice none 0 0,.bool false,.int .i64 0] 136)).alloc (.cells #[.int .i64 1,.int .i64 a,.string c,.slice none 0 0,.bool false,.int .i64 0] 136)) (.cells #[.int .i64 2,.int .i64 2,.int .i64 3,.int .i64 4] 3)
   rw[qkg,qkg]at this;exact this
 obtain⟨D,hD⟩:∃D:ByteArray,D=⟨#[35,94,47,62]⟩:=⟨_,rfl⟩;rw[←hD]at HM;have ho:D.size=4:=by rw[hD];rfl
 have HT:Hid (∀w,Calls Tryz.prog 82 #[.string (c.extract 1 c.size)] w fun e w'=>e=.returned (.string ⟨(Go.Lib.trimS (c.data.toList.drop 1) Pl.qah).toArray⟩)∧w=w'):=by
  intro w;have hz:(c.extract 1 c.size).size≤1000000:=by rw[Pl.extract_drop,qbz,List.length_drop];show c.size - 1≤_;omega
  have:=qn4 (c.extract 1 c.size) w hz;have e:(c.extract 1 c.size).data.toList=c.data.toList.drop 1:=by rw[Pl.extract_drop]
  rwa [e]at this
 have HX:Hid (∀t:ByteArray,t=⟨(Go.Lib.trimS (c.data.toList.drop 1) Pl.qah).toArray⟩→∀m:Nat,cond (decide (m<4)) t c=⟨(Pl.qi2 m c.data.toList).toArray⟩):=by
  rintro t rfl m;unfold Pl.qi2;by_cases q:m<4
  ·rw[decide_eq_true q,if_pos q];rfl
  ·rw[decide_eq_false q,if_neg q];rfl
 obtain⟨tx,Hb⟩:∃tx:ByteArray,tx=⟨(Go.Lib.trimS (c.data.toList.drop 1) Pl.qah).toArray⟩:=⟨_,rfl⟩;have HX:=hd (HX.out tx Hb);rw[←Hb]at HT;obtain⟨T,hT⟩:∃T:ByteArray,T=⟨(Pl.qi2 (Pl.qcc c[0]) c.data.toList).toArray⟩:=⟨_,rfl⟩;have Hf:Pl.pcOk (Pl.qcc c[0]) c.data.toList=if Pl.qcc c[0]=3 then Pl.qa6 T.data.toList else Pl.isNm T.data.toList:=by rw[hT];rfl
 have zT:T.size≤1000000:=by
  rw[hT,qbz];unfold Pl.qi2 Go.Lib.trimS;have hl:c.data.toList.length=c.size:=rfl;split
  ·have h1:=Pl.qh9 (Go.Lib.trimRightS (c.data.toList.drop 1) Pl.qah) Pl.qah
   have h2:=Pl.qk4 (c.data.toList.drop 1) Pl.qah;rw[List.length_drop]at h2;omega
  ·omega
 have Hc:Hid (cond (decide (Pl.qcc c[0]<4)) tx c=T):=(HX.out _).trans hT.symm;rw[Hf,←hT];clear Hf hT HX;obtain⟨mn,hg⟩:∃mn,mn=Pl.qcc c[0]:=⟨_,rfl⟩;rw[←hg]at HM Hk Hc ⊢;obtain⟨sl,he⟩:∃sl:Int,sl=if(if mn=3 then Pl.qa6 T.data.toList else Pl.isNm T.data.toList)=true then 0 else 3:=⟨_,rfl⟩;rw[←he];have hb:=(show Hid (sl=_) from he);clear he;have Ho:(0:Int)<(c.size:Int):=by omega
 go_enter Tryz.func83,Tryz.ntmps83
 go_wp2_with fail
 rw[←hD];clear hD Hb hg;generalize hW:World.alloc (World.alloc (World.alloc w _) _) _=W0;have Hg:=hd (H0.out W0 hW);clear H0 hW;go_loopw [9] (fun i wr=>∃k:Nat,k≤4∧i=.int .i64 k∧Hid (PcM w wr (cond (decide (mn<k)) (Pl.qfm mn) 1) a (cond (decide (mn<k)) tx c) (.slice none 0 0) (cond (decide (mn<k)) (decide (mn=1)) false))) (fun i _=>4 - (intOf i).toNat)
 case atStart=>exact⟨0,Nat.zero_le _,rfl,Hg⟩
 case round=>
  obtain⟨k,hk,rfl,HP⟩:=hrel;by_cases hi:k<4
  rotate_left
  ·have Hl:k=4:=by omega
   subst Hl;have Hi:Hid (PcM w wr (Pl.qfm mn) a T (.slice none 0 0) (decide (mn=1))):=by
    have:=HP.out;rw[Hc.out]at this;by_cases q:mn<4
    ·rw[decide_eq_true q]at this;exact this
    ·have e4:mn=4:=by omega
     rw[decide_eq_false q]at this;rw[e4]at this ⊢;exact this
   clear Hc HM Hg HP HT;have hj:=Hi.out.cells;have q12:=hj 2 _ rfl;clear hj;have HN:Hid (∀w1 v L,qgc wr.heap.size w1 v L→Below wr.heap.size wr w1→∃ao n cap,v=.slice ao n cap∧PcM w w1 (Pl.qfm mn) a T (.slice none 0 0) (decide (mn=1))):=by
    intro w1 v L hO hB;obtain⟨ao,cap,rfl⟩:=hO.slice;exact⟨ao,L.length,cap,rfl,Hi.out.kept hB⟩
   have He:¬(((4:Nat):Int)<4):=by omega
   by_cases h3:mn=3
   ·have k3:(Pl.qfm mn==4)=true:=by rw[h3];rfl
    have H3:=(show Hid (mn=3) from h3);clear h3;cases ha:Pl.qa6 T.data.toList
    ·have HV:Hid (sl=3):=by show _=_;rw[hb.out,if_pos H3.out,ha];rfl
     go_wp2_with (first | (go_at_call 120;refine(qjv T _ zT).mono ?_;rintro e w1 ⟨⟨v,rfl,L,hO,_⟩,hB⟩;obtain⟨ao,n,cap,rfl,hM⟩:=HN.out w1 v L hO hB;clear hO hB;have q0:=hM.cells 0 _ rfl;have q1:=hM.cells 1 _ rfl;have q2:=hM.cells 2 _ rfl;have q3:=hM.cells 3 _ rfl;have q4:=hM.cells 4 _ rfl;have q5:=hM.cells 5 _ rfl;have f3:=hM.thaw 3;have g0:=hM.res.thaw 0;have g1:=hM.res.thaw 1;have g2:=hM.res.thaw 2;have g3:=hM.res.thaw 3;have g4:=hM.res.thaw 4;have g5:=hM.res.thaw 5;obtain⟨x0,r0⟩:=hM.res.cell 0 (by decide);obtain⟨x1,r1⟩:=hM.res.cell 1 (by decide);obtain⟨x2,r2⟩:=hM.res.cell 2 (by decide);obtain⟨x3,r3⟩:=hM.res.cell 3 (by decide);obtain⟨x4,r4⟩:=hM.res.cell 4 (by decide);obtain⟨x5,r5⟩:=hM.res.cell 5 (by decide);have HM:=hd hM;clear hM) | (go_at_call 52;refine(qfx T _ zT).mono ?_;rintro e w2 ⟨rfl,rfl⟩;rw[ha]))
     refine qbm Tryz.results83 w.heap.size _ Tryz.underlying136 rfl qo3 rfl ((HM.out.set 3 _ ((qoo _ _ _ _ _ _ _ HM.out.blk).2.2.1 (.slice ao n cap))).res) rfl _ _ _ _ _ _ _ rfl ?_;exact⟨⟨ao,n,cap,by rw[HV.out];rfl⟩,qbx (HM.out.below.setCell (by simp) _) (Nat.le_refl _) _ _ _ _ _ _⟩
    ·have HV:Hid (sl=0):=by show _=_;rw[hb.out,if_pos H3.out,ha];rfl
     go_wp2_with (first | (go_at_call 120;refine(qjv T _ zT).mono ?_;rintro e w1 ⟨⟨v,rfl,L,hO,_⟩,hB⟩;obtain⟨ao,n,cap,rfl,hM⟩:=HN.out w1 v L hO hB;clear hO hB;have q0:=hM.cells 0 _ rfl;have q1:=hM.cells 1 _ rfl;have q2:=hM.cells 2 _ rfl;have q3:=hM.cells 3 _ rfl;have q4:=hM.cells 4 _ rfl;have q5:=hM.cells 5 _ rfl;have f3:=hM.thaw 3;have g0:=hM.res.thaw 0;have g1:=hM.res.thaw 1;have g2:=hM.res.thaw 2;have g3:=hM.res.thaw 3;have g4:=hM.res.thaw 4;have g5:=hM.res.thaw 5;obtain⟨x0,r0⟩:=hM.res.cell 0 (by decide);obtain⟨x1,r1⟩:=hM.res.cell 1 (by decide);obtain⟨x2,r2⟩:=hM.res.cell 2 (by decide);obtain⟨x3,r3⟩:=hM.res.cell 3 (by decide);obtain⟨x4,r4⟩:=hM.res.cell 4 (by decide);obtain⟨x5,r5⟩:=hM.res.cell 5 (by decide);have HM:=hd hM;clear hM) | (go_at_call 52;refine(qfx T _ zT).mono ?_;rintro e w2 ⟨rfl,rfl⟩;rw[ha]))
     refine qbm Tryz.results83 w.heap.size _ Tryz.underlying136 rfl qo3 rfl ((HM.out.set 3 _ ((qoo _ _ _ _ _ _ _ HM.out.blk).2.2.1 (.slice ao n cap))).res) rfl _ _ _ _ _ _ _ rfl ?_;exact⟨⟨ao,n,cap,by rw[HV.out];rfl⟩,qbx (HM.out.below.setCell (by simp) _) (Nat.le_refl _) _ _ _ _ _ _⟩
   ·have k3:(Pl.qfm mn==4)=false:=by
     rw[beq_eq_false_iff_ne];unfold Pl.qfm
     repeat' split
     all_goals omega
    have H3:=(show Hid (¬mn=3) from h3);clear h3;cases ha:Pl.isNm T.data.toList
    ·have HV:Hid (sl=3):=by show _=_;rw[hb.out,if_neg H3.out,ha];rfl
     go_wp2_with (first | (go_at_call 120;refine(qjv T _ zT).mono ?_;rintro e w1 ⟨⟨v,rfl,L,hO,_⟩,hB⟩;obtain⟨ao,n,cap,rfl,hM⟩:=HN.out w1 v L hO hB;clear hO hB;have q0:=hM.cells 0 _ rfl;have q1:=hM.cells 1 _ rfl;have q2:=hM.cells 2 _ rfl;have q3:=hM.cells 3 _ rfl;have q4:=hM.cells 4 _ rfl;have q5:=hM.cells 5 _ rfl;have f3:=hM.thaw 3;have g0:=hM.res.thaw 0;have g1:=hM.res.thaw 1;have g2:=hM.res.thaw 2;have g3:=hM.res.thaw 3;have g4:=hM.res.thaw 4;have g5:=hM.res.thaw 5;obtain⟨x0,r0⟩:=hM.res.cell 0 (by decide);obtain⟨x1,r1⟩:=hM.res.cell 1 (by decide);obtain⟨x2,r2⟩:=hM.res.cell 2 (by decide);obtain⟨x3,r3⟩:=hM.res.cell 3 (by decide);obtain⟨x4,r4⟩:=hM.res.cell 4 (by decide);obtain⟨x5,r5⟩:=hM.res.cell 5 (by decide);have HM:=hd hM;clear hM))
     refine qbm Tryz.results83 w.heap.size _ Tryz.underlying136 rfl qo3 rfl ((HM.out.set 3 _ ((qoo _ _ _ _ _ _ _ HM.out.blk).2.2.1 (.slice ao n cap))).res) rfl _ _ _ _ _ _ _ rfl ?_;exact⟨⟨ao,n,cap,by rw[HV.out];rfl⟩,qbx (HM.out.below.setCell (by simp) _) (Nat.le_refl _) _ _ _ _ _ _⟩
    ·have HV:Hid (sl=0):=by show _=_;rw[hb.out,if_neg H3.out,ha];rfl
     go_wp2_with (first | (go_at_call 120;refine(qjv T _ zT).mono ?_;rintro e w1 ⟨⟨v,rfl,L,hO,_⟩,hB⟩;obtain⟨ao,n,cap,rfl,hM⟩:=HN.out w1 v L hO hB;clear hO hB;have q0:=hM.cells 0 _ rfl;have q1:=hM.cells 1 _ rfl;have q2:=hM.cells 2 _ rfl;have q3:=hM.cells 3 _ rfl;have q4:=hM.cells 4 _ rfl;have q5:=hM.cells 5 _ rfl;have f3:=hM.thaw 3;have g0:=hM.res.thaw 0;have g1:=hM.res.thaw 1;have g2:=hM.res.thaw 2;have g3:=hM.res.thaw 3;have g4:=hM.res.thaw 4;have g5:=hM.res.thaw 5;obtain⟨x0,r0⟩:=hM.res.cell 0 (by decide);obtain⟨x1,r1⟩:=hM.res.cell 1 (by decide);obtain⟨x2,r2⟩:=hM.res.cell 2 (by decide);obtain⟨x3,r3⟩:=hM.res.cell 3 (by decide);obtain⟨x4,r4⟩:=hM.res.cell 4 (by decide);obtain⟨x5,r5⟩:=hM.res.cell 5 (by decide);have HM:=hd hM;clear hM))
     refine qbm Tryz.results83 w.heap.size _ Tryz.underlying136 rfl qo3 rfl ((HM.out.set 3 _ ((qoo _ _ _ _ _ _ _ HM.out.blk).2.2.1 (.slice ao n cap))).res) rfl _ _ _ _ _ _ _ rfl ?_;exact⟨⟨ao,n,cap,by rw[HV.out];rfl⟩,qbx (HM.out.below.setCell (by simp) _) (Nat.le_refl _) _ _ _ _ _ _⟩
  have He:(k:Int)<4:=by omega
  have Hm:(k:Int)<(D.size:Int):=by omega
  have hf:k<D.size:=by omega
  have hq:=HM.out k hi hf;by_cases Hj:k=mn
  rotate_left
  ·rw[decide_eq_false Hj]at hq
   have hn:Hid (PcM w wr (cond (decide (mn<k+1)) (Pl.qfm mn) 1) a (cond (decide (mn<k+1)) tx c) (.slice none 0 0) (cond (decide (mn<k+1)) (decide (mn=1)) false)):=by
    have e:decide (mn<k+1)=decide (mn<k):=decide_eq_decide.2 (by omega);rw[e];exact HP.out
   clear HP HM;go_wp2_with fail
   go_region
   all_goals
    go_wp2
    go_roundw
    case rel=>exact⟨k+1,by omega,by go_num,hn.out.kept ((Below.refl _ _).drew)⟩
    case measure=>simp[intOf];omega
  ·subst Hj
   rw[decide_eq_true rfl]at hq;have q2:=HP.out.kinds k hi;have Ha:Hid (PcM w wr 1 a c (.slice none 0 0) false):=by
    have:=HP.out;rw[decide_eq_false (Nat.lt_irrefl k)]at this;exact this
   clear HP HM;have qc:=Ha.out.cells;have q10:=qc 0 _ rfl;have q14:=qc 4 _ rfl;have q12:=qc 2 _ rfl;have f10:=Ha.out.thaw 0;have f12:=Ha.out.thaw 2;have f14:=Ha.out.thaw 4;clear qc;go_wp2_with (go_at_call 82;refine(HT.out _).mono ?_;rintro e w' ⟨rfl,rfl⟩)
   go_region
   all_goals
    go_wp2_with (go_at_call 82;refine(HT.out _).mono ?_;rintro e w' ⟨rfl,rfl⟩)
    refine⟨⟨k+1,by omega,by go_num,?_⟩,by simp[intOf];omega⟩;have h1:=Ha.out.set 0 _ ((qoo _ _ _ _ _ _ _ Ha.out.blk).1 (Pl.qfm k));have h2:=h1.set 4 _ ((qoo _ _ _ _ _ _ _ h1.blk).2.2.2 ((k:Int)==1));have h3:=h2.set 2 _ ((qoo _ _ _ _ _ _ _ h2.blk).2.1 tx);have e:((k:Int)==1)=decide (k=1):=by rw[Bool.eq_iff_iff,beq_iff_eq,decide_eq_true_iff];omega
    rw[decide_eq_true (Nat.lt_succ_self k)];rw[e]at h3 ⊢;exact h3.kept ((Below.refl _ _).drew)
end Go.Proofs.YtfkhljmiehdgmaaGreatDoor
