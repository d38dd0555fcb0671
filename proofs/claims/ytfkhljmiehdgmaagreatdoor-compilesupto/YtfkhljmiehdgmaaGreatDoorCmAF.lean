/-
  Steps of the proof.
-/
import Derived.Test.YtfkhljmiehdgmaaGreatDoorCmAE
namespace Go.Proofs.YtfkhljmiehdgmaaGreatDoor.Pl
theorem qnd(n:List UInt8):qit (qax n):=by
 unfold qax qit;split
 ·rename_i h
  exact .inr h
 ·exact .inl rfl
theorem qjt{n:List UInt8}(h:qit n):n.length≤8:=by
 rcases h with rfl | rfl | rfl | rfl | rfl<;>decide
theorem qqv(n:List UInt8)(b:UInt8)(h:n.length≤9):(qc2 n b).length≤9:=by
 unfold qc2;split
 ·exact h
 ·rw[List.length_append];simp;omega
theorem qo0(n:List UInt8):0≤qcw n∧qcw n≤3:=by
 unfold qcw;cases h:qds.find? (qbb n) with
 | none=>exact⟨by decide,by decide⟩
 | some r=>
   have hm:=List.mem_of_find?_eq_some h;have:∀r∈qds,0≤r.2.2∧r.2.2≤3:=by decide
   exact this r hm
theorem q37:∀m,m<19→qa3.getD m false=false:=by decide
theorem q0h:∀m,m≤33→qeb.getD (qeb.getD m 0) 0=0∧qeb.getD m 0≤33:=by decide
theorem qjp(s:St)(b:UInt8):s.readEnd b≤s.ending.length:=by
 unfold St.readEnd;split
 ·rename_i h
  have:=(List.getElem?_eq_some_iff.1 h).1;omega
 ·split
  ·simp[St.ending]
  ·exact Nat.zero_le _
theorem q1t{n:List UInt8}(h:qit n):(qcg n).Ok:=by
 rcases h with rfl | rfl | rfl | rfl | rfl
 all_goals
  refine⟨by decide,by decide,by decide,fun _ _=>by decide,?_,by decide,by decide,by decide,by decide,by decide,by decide⟩;unfold qit;decide
theorem q5h:St.start.Ok:=by
 refine⟨by decide,by decide,by decide,fun _ _=>rfl,.inl rfl,fun _=>⟨rfl,rfl⟩,fun _=>rfl,fun _=>rfl,by decide,by decide,fun h=>by revert h;decide⟩
theorem q6q(b:UInt8):(St.mk (qcy b) [] [] 0 0 false).Ok:=by
 unfold qcy;split
 all_goals
  refine⟨by decide,by decide,by decide,fun _ _=>rfl,.inl rfl,fun _=>⟨rfl,rfl⟩,fun _=>rfl,fun _=>rfl,by decide,by decide,fun h=>by revert h;decide⟩
theorem q5g{s:St}(b:UInt8)(h:s.Ok)(ha:s.esc=false):(s.table b).Ok:=by
 rw[qnh];have hs:=qog s.mode h.lo h.hi b;have hn:=h.named;unfold qm9 at hs;simp only[Bool.and_eq_true,decide_eq_true_eq,Bool.or_eq_true]at hs;generalize qbw s.mode b=r at hs ⊢;generalize qdc s.mode b=t at hs ⊢;obtain⟨⟨⟨⟨⟨⟨⟨⟨⟨⟨r1,r2⟩,t1⟩,t2⟩,hf⟩,hr⟩,Hc⟩,h3⟩,h5⟩,h4⟩,hp⟩:=hs;obtain⟨m,n,e,k,rd,x⟩:=s;simp only at *;subst ha;have g1:=h.name;have g2:=h.elem;have g3:=h.bare;have g4:=h.low;have g6:=h.read;have g7:=h.wrap;have g8:=h.high;simp only at g1 g2 g3 g4 g6 g7 g8;have hZ:∃zn ze zk,(St.mk r n e k rd false).led t b=(St.mk r zn ze zk rd false).led1 t b∧zn.length≤9∧(t≠3→t≠5→zn=[])∧qit ze∧-3≤zk∧zk≤3∧(r≠3∨t=r→ze=e)∧(r≠5∨t=r→zk=k):=by
  by_cases ht:t=r
  ·refine⟨n,e,k,?_,g1,?_,g2,g7.1,g7.2,fun _=>rfl,fun _=>rfl⟩
   ·unfold St.led;rw[if_pos ht]
   ·intro a b
    refine hn ?_ ?_<;>omega
  ·refine⟨[],if r=3 then qax n else e,if r=5 then qcw n else k,?_,by simp,fun _ _=>rfl,?_,?_,?_,?_,?_⟩
   ·unfold St.led;rw[if_neg ht];rfl
   ·split
    ·exact qnd n
    ·exact g2
   ·split
    ·have:=qo0 n;omega
    ·exact g7.1
   ·split
    ·have:=qo0 n;omega
    ·exact g7.2
   ·intro hh
    rw[if_neg (by omega)]
   ·intro hh
    rw[if_neg (by omega)]
 obtain⟨zn,ze,zk,Ha,z1,z2,z3,z4,z5,z6,z7⟩:=hZ;rw[Ha];unfold St.led1;have Hb:m<19→rd=0:=g4;by_cases c3:t=3
 ·rw[if_pos c3]
  simp only[c3,if_true,Bool.or_eq_true,decide_eq_true_eq]at h3;have hb:=g3 (by omega);refine⟨by simp only;omega,by simp only;omega,qqv zn b z1,fun hh=>absurd c3 hh,z3,fun _=>?_,fun _=>g4 (by omega),fun _=>rfl,by have:=g4 (by omega);simp only;omega,⟨z4,z5⟩,fun hh=>by simp only at hh;omega⟩;refine⟨(z6 ?_).trans hb.1,(z7 (by omega)).trans hb.2⟩;omega
 rw[if_neg c3];by_cases c5:t=5
 ·rw[if_pos c5]
  simp only[c5,if_true,Bool.or_eq_true,decide_eq_true_eq]at h5;refine⟨by simp only;omega,by simp only;omega,qqv zn b z1,fun _ hh=>absurd c5 hh,z3,fun hh=>by simp only at hh;omega,fun _=>g4 (by omega),fun _=>rfl,by have:=g4 (by omega);simp only;omega,⟨by simp only;omega,by simp only;omega⟩,fun hh=>by simp only at hh;omega⟩
 rw[if_neg c5];have hc:=z2 c3 c5;by_cases c4:t=4∨t=10
 ·rw[if_pos c4]
  rw[if_pos (by omega)]at h4;simp only[Bool.and_eq_true,decide_eq_true_eq]at h4;refine⟨by simp only;omega,by simp only;omega,z1,fun _ _=>hc,z3,fun hh=>by simp only at hh;omega,fun _=>g4 (by omega),fun _=>rfl,by have:=g4 (by omega);simp only;omega,⟨by simp only;omega,by simp only;omega⟩,fun hh=>by simp only at hh;omega⟩
 rw[if_neg c4];by_cases c34:t=34
 ·rw[if_pos c34]
  exact q1t z3
 rw[if_neg c34];have he:(m<19↔t<19)∧(m<19↔r<19):=by
  by_cases hm:m<19
  ·rw[if_pos hm]at hf
   simp only[Bool.and_eq_true,Bool.or_eq_true,decide_eq_true_eq]at hf;omega
  ·rw[if_neg hm]at hf
   simp only[Bool.and_eq_true,decide_eq_true_eq]at hf;omega
 refine⟨by simp only;omega,by simp only;omega,z1,fun _ _=>hc,z3,fun hh=>?_,fun hh=>g4 (by simp only at hh;omega),fun _=>rfl,?_,⟨z4,z5⟩,fun hh=>?_⟩
 ·simp only at hh
  rw[if_pos (by omega)]at hp;simp only[Bool.and_eq_true,Bool.or_eq_true,decide_eq_true_eq]at hp;have hb:=g3 (by omega);exact⟨(z6 (by omega)).trans hb.1,(z7 (by omega)).trans hb.2⟩
 ·by_cases hm:m<19
  ·have:=g4 hm;simp only;omega
  ·have:=z6 (by omega)
   subst this;exact g6
 ·simp only at hh
  have hb:=g8 (by omega);exact⟨by rw[show ze=e from z6 (by omega)];exact hb.1,(z7 (by omega)).trans hb.2⟩
theorem qvf{s:St}(b:UInt8)(h:s.Ok):(s.behind b).Ok:=by
 have quiet:∀s:St,s.Ok→(s.quiet b).Ok:=by
  intro s h;unfold St.quiet;split
  ·rename_i hq
   simp only[Bool.and_eq_true]at hq;exact⟨h.lo,h.hi,h.name,h.named,h.elem,h.bare,h.low,fun hh=>(by simp only at hh;rw[hq.1]at hh;cases hh),h.read,h.wrap,h.high⟩
  ·rename_i hq
   refine q5g b h ?_;by_cases he:qa3.getD s.mode false=true
   ·rw[he,Bool.true_and]at hq
    simp only[Bool.or_eq_true,not_or,Bool.not_eq_true]at hq;exact hq.1
   ·exact h.calm (Bool.eq_false_iff.2 he)
 unfold St.behind;split
 ·split
  ·exact q6q b
  ·refine quiet _ ⟨h.lo,h.hi,h.name,h.named,h.elem,h.bare,fun hh=>?_,h.calm,qjp s b,h.wrap,h.high⟩
   simp only at hh;omega
 ·exact quiet _ h
theorem qla(l e:List UInt8)(n:Nat)(hn:n≤e.length):qf3 l e n=true↔e.take n <:+ l.map qcr:=by
 unfold qf3;rw[Bool.and_eq_true,decide_eq_true_eq,beq_iff_eq];constructor
 ·rintro⟨h,q⟩
  rw[←q,List.map_drop];exact List.drop_suffix _ _
 ·intro h
  have hl:=h.length_le;rw[List.length_take,List.length_map,Nat.min_eq_left hn]at hl;refine⟨hl,?_⟩;rw[List.map_drop];have:=List.suffix_iff_eq_drop.1 h;rw[List.length_take,List.length_map,Nat.min_eq_left hn]at this;exact this.symm
theorem qom(l e:List UInt8):∀k,qbp l e k≤k
 | 0=>Nat.le_refl _
 | k+1=>by
   unfold qbp;split
   ·exact Nat.le_refl _
   ·exact Nat.le_succ_of_le (qom l e k)
theorem ql2(l e:List UInt8):∀k,qbp l e k=0∨qf3 l e (qbp l e k)=true
 | 0=>.inl rfl
 | k+1=>by
   unfold qbp;split
   ·next h=>exact .inr h
   ·exact ql2 l e k
theorem ql1(l e:List UInt8):∀k n,n≤k→qf3 l e n=true→n≤qbp l e k
 | 0,n,hn,_=>by omega
 | k+1,n,hn,h=>by
   unfold qbp;split
   ·exact hn
   ·next h'=>
    rcases Nat.lt_or_ge n (k+1)with q | q
    ·exact ql1 l e k n (by omega) h
    ·have:n=k+1:=by omega
     subst this;exact absurd h h'
def Once(e:List UInt8):Prop:=∀j,1≤j→e[j]?≠some 60
theorem qsn(l e:List UInt8)(he:Once e)(h0:e[0]?=some 60)(n k:Nat)(hn:n≤e.length)(hk:k≤e.length)(h1:1≤n)(hb:n≤k)(hN:qf3 l e n=true)(hK:qf3 l e k=true):n=k:=by
 rw[qla _ _ _ hn]at hN;rw[qla _ _ _ hk]at hK;obtain⟨a,ha⟩:=hN;obtain⟨c,hc⟩:=hK;have Ha:a.length+n=c.length+k:=by
  have:=congrArg List.length (ha.trans hc.symm);simpa [List.length_append,List.length_take,Nat.min_eq_left hn,Nat.min_eq_left hk] using this
 rcases Nat.lt_or_ge n k with q | q
 ·exfalso
  have g1:(a++e.take n)[a.length]?=some 60:=by
   rw[List.getElem?_append_right (Nat.le_refl _),Nat.sub_self,List.getElem?_take,if_pos (by omega)];exact h0
  have g2:(c++e.take k)[a.length]?=e[k - n]?:=by
   rw[List.getElem?_append_right (by omega),List.getElem?_take,if_pos (by omega),show a.length - c.length=k - n by omega]
  rw[ha,←hc,g2]at g1;exact he (k - n) (by omega) g1
 ·omega
theorem qwp(l e:List UInt8)(b:UInt8)(n:Nat)(hn:n<e.length):qf3 (l++[b]) e (n+1)=true↔qf3 l e n=true∧e[n]?=some (qcr b):=by
 rw[qla _ _ _ hn,qla _ _ _ (Nat.le_of_lt hn)];have ht:e.take (n+1)=e.take n++[e[n]]:=List.take_succ_eq_append_getElem hn;rw[ht,List.map_append,List.map_singleton,List.getElem?_eq_getElem hn];constructor
 ·rintro⟨a,ha⟩
  rw[←List.append_assoc]at ha;obtain⟨x,y⟩:=List.append_inj' ha rfl;simp only[List.cons.injEq,and_true]at y;exact⟨⟨a,x⟩,by rw[y]⟩
 ·rintro⟨⟨a,ha⟩,hb⟩
  simp only[Option.some.injEq]at hb;exact⟨a,by rw[←List.append_assoc,ha,hb]⟩
theorem qqi(l e:List UInt8):qf3 l e 0=true:=by simp[qf3]
theorem qwr(l e:List UInt8)(b:UInt8)(he:Once e)(h0:e[0]?=some 60) :
  qbp (l++[b]) e e.length=if e[qbp l e e.length]?=some (qcr b) then qbp l e e.length+1 else if b=60 then 1 else 0:=by
 have Ha:0<e.length:=by
  rcases Nat.eq_zero_or_pos e.length with q | q
  ·rw[List.eq_nil_of_length_eq_zero q]at h0;simp at h0
  ·exact q
 have He:qcr b=60↔b=60:=by
  have:∀n∈List.range 256,(qcr (UInt8.ofNat n)=60↔UInt8.ofNat n=60):=by decide +kernel
  have:=this b.toNat (List.mem_range.2 b.toNat_lt)
  rwa [UInt8.ofNat_toNat]at this
 have hz:qf3 l e (qbp l e e.length)=true:=by
  rcases ql2 l e e.length with q | q
  ·rw[q];exact qqi _ _
  ·exact q
 have Hb:∀n,n≤e.length→qf3 l e n=true→n=0∨n=qbp l e e.length:=by
  intro n hn h;rcases Nat.eq_zero_or_pos n with q | q
  ·exact .inl q
  ·have:=ql1 l e e.length n hn h
   exact .inr (qsn l e he h0 n _ hn (qom _ _ _) q this h hz)
 generalize qbp l e e.length=r at *;have ha:∀n,n+1≤e.length→qf3 (l++[b]) e (n+1)=true→(n=0∨n=r)∧e[n]?=some (qcr b):=by
  intro n hn h;obtain⟨p,q⟩:=(qwp l e b n (by omega)).1 h;exact⟨Hb n (by omega) p,q⟩
 have Hc:=qom (l++[b]) e e.length;have hb:=ql2 (l++[b]) e e.length;have hc:=ql1 (l++[b]) e e.length;generalize qbp (l++[b]) e e.length=R at *;by_cases c1:e[r]?=some (qcr b)
 ·rw[if_pos c1]
  have hr:=(List.getElem?_eq_some_iff.1 c1).1;have hR:=(qwp l e b r hr).2 ⟨hz,c1⟩;have g1:=hc (r+1) hr hR;have g2:qf3 (l++[b]) e R=true:=by
   rcases hb with q | q
   ·omega
   ·exact q
  exact(qsn (l++[b]) e he h0 (r+1) R hr Hc (by omega) g1 hR g2).symm
 ·rw[if_neg c1]
  by_cases c2:b=60
  ·rw[if_pos c2]
   have hR:=(qwp l e b 0 Ha).2 ⟨qqi _ _,by rw[h0,He.2 c2]⟩;have g1:=hc 1 Ha hR;have g2:qf3 (l++[b]) e R=true:=by
    rcases hb with q | q
    ·omega
    ·exact q
   exact(qsn (l++[b]) e he h0 1 R Ha Hc (by omega) g1 hR g2).symm
  ·rw[if_neg c2]
   rcases hb with q | q
   ·exact q
   ·rcases Nat.eq_zero_or_pos R with z | z
    ·exact z
    ·exfalso
     obtain⟨n,rfl⟩:∃n,R=n+1:=⟨R - 1,by omega⟩;obtain⟨x,y⟩:=ha n Hc q;rcases x with rfl | rfl
     ·rw[h0]at y
      simp only[Option.some.injEq]at y;exact c2 (He.1 y.symm)
     ·exact c1 y
theorem qwq(l e:List UInt8)(he:e.length≤12):qbp (qcb l) e e.length=qbp l e e.length:=by
 have key:∀n,n≤e.length→qf3 (qcb l) e n=qf3 l e n:=by
  intro n hn;unfold qcb;split
  ·next h=>
   unfold qf3;rw[List.length_drop,List.drop_drop];rw[show l.length - 12+(l.length - (l.length - 12) - n)=l.length - n by omega];have:decide (n≤l.length - (l.length - 12))=decide (n≤l.length):=by rw[decide_eq_decide];omega
   rw[this]
  ·rfl
 have:∀k,k≤e.length→qbp (qcb l) e k=qbp l e k:=by
  intro k
  induction k with
  | zero=>intro _;rfl
  | succ k ih=>intro hk;unfold qbp;rw[key _ hk,ih (by omega)]
 exact this _ (Nat.le_refl _)
theorem q5u{n:List UInt8}(h:qit n):Once (qcm n)∧(qcm n)[0]?=some 60∧(qcm n).length≤12:=by
 refine⟨?_,rfl,by have:=qjt h;unfold qcm;simp only[List.length_cons];omega⟩;have key:∀n:List UInt8,qit n→(qcm n).length≤10:=by
  intro n h;have:=qjt h;unfold qcm;simp only[List.length_cons];omega
 intro j hj hq;have hl:=(List.getElem?_eq_some_iff.1 hq).1;have ha:=key n h;have hb:(List.range 10).all (fun j=>j==0 || !((qcm n)[j]?==some 60))=true:=by
  rcases h with rfl | rfl | rfl | rfl | rfl<;>decide
 have:=List.all_eq_true.1 hb j (List.mem_range.2 (by omega));simp only[Bool.or_eq_true,beq_iff_eq,Bool.not_eq_true',beq_eq_false_iff_ne]at this;rcases this with h | h
 ·omega
 ·exact h hq
theorem qok(l n:List UInt8)(b:UInt8)(h:qit n) :
  qbp (qcb (l++[b])) (qcm n) (qcm n).length=if(qcm n)[qbp l (qcm n) (qcm n).length]?=some (qcr b) then qbp l (qcm n) (qcm n).length+1 else if b=60 then 1 else 0:=by
 obtain⟨a,c,d⟩:=q5u h;rw[qwq _ _ d,qwr _ _ _ a c]
theorem qlp(b:UInt8):among b qix=qc0 b:=by
 have:∀n∈List.range 256,among (UInt8.ofNat n) qix=qc0 (UInt8.ofNat n):=by decide +kernel
 have:=this b.toNat (List.mem_range.2 b.toNat_lt)
 rwa [UInt8.ofNat_toNat]at this
theorem q0y(b:UInt8):qc0 (cls b)=qc0 b:=by
 have:∀n∈List.range 256,qc0 (cls (UInt8.ofNat n))=qc0 (UInt8.ofNat n):=by decide +kernel
 have:=this b.toNat (List.mem_range.2 b.toNat_lt)
 rwa [UInt8.ofNat_toNat]at this
theorem qx6(b:UInt8)(l:List UInt8)(hl:l.all (fun c=>among c named && !qc0 c)=true):among b l=among (cls b) l:=by
 have h1:l.all (fun c=>among c named)=true:=by
  rw[List.all_eq_true]at hl ⊢;intro c hc;have:=hl c hc;rw[Bool.and_eq_true]at this;exact this.1
 rw[←qvp b l h1];unfold qd6;by_cases hb:qc0 b=true
 ·rw[if_pos hb]
  have no:∀x,qc0 x=true→among x l=false:=by
   intro x hx;rw[Bool.eq_false_iff];intro hq;have:=List.all_eq_true.1 hl x (qg6.1 hq);rw[hx]at this;simp at this
  rw[no b hb,no 97 (by decide)]
 ·rw[if_neg hb]
def q2x(l:List (List UInt8×Int)):Bool:=l.all fun r=>r.1==qix || r.1.all (fun c=>among c named && !qc0 c)
theorem q0c:((List.range 34).all fun m=>q2x (qe1 m))=true:=by decide +kernel
theorem qlu(m:Nat)(hm:m≤33)(b:UInt8):tgt m b=tgt m (cls b):=by
 have hp:=List.all_eq_true.1 q0c m (List.mem_range.2 (by omega));unfold tgt;rw[ql8 (qe1 m)];intro r hr;have:=List.all_eq_true.1 hp r hr;rw[Bool.or_eq_true,beq_iff_eq]at this;unfold qgx;rcases this with h | h
 ·rw[h,qlp,qlp,q0y]
 ·rw[qx6 b r.1 h]
def qtb(m:Nat)(c:UInt8):Bool:=
 if tgt m c=-2 then decide (qbw m c=qa8 m) && decide ((qdc m c:Int)=tgt (qa8 m) c) && decide (tgt (qa8 m) c≠-1)
 else if tgt m c=-1 then decide (qbw m c=m) && decide (qdc m c=34) && decide (3≤m) && decide (m≤10)
 else decide (qbw m c=m) && decide ((qdc m c:Int)=tgt m c)
theorem q4w:((List.range 34).all fun m=>m==0 || (0::named).all fun c=>qtb m c)=true:=by decide +kernel
theorem qlq(m:Nat)(h1:1≤m)(h2:m≤33)(b:UInt8):qtb m b=true:=by
 have e:qtb m b=qtb m (cls b):=by
  have ha:=qkx m;unfold qtb;rw[qlu m h2 b,ql0,que,qlu _ ha b]
 rw[e];have:=(List.all_eq_true.1 q4w) m (List.mem_range.2 (by omega));simp only[Bool.or_eq_true,beq_iff_eq]at this;rcases this with h | h
 ·omega
 ·exact List.all_eq_true.1 h _ (qku b)
structure Par(s:St)(p:Sp):Prop where
 mode:p.mode=(s.mode:Int)
 tagName:s.mode=3→p.tag=s.name
 attrName:s.mode=5→p.attr=s.name
 inTag:4≤s.mode→s.mode≤10→qax p.tag=s.elem
 tag:19≤s.mode→p.tag=s.elem
 read:19≤s.mode→p.read=s.read
 esc:qb7 s.mode=true→s.esc=decide (qdy (qbe s.mode) p.run=1)
theorem qoq:Par St.start Sp.start:=
 ⟨rfl,fun h=>(by cases h),fun h=>(by cases h),fun h=>(by revert h;decide),fun h=>(by revert h;decide),fun h=>(by revert h;decide),fun h=>(by revert h;decide)⟩
theorem qlk(n:List UInt8)(b:UInt8)(h:n.length≤9):qfn (n++[qcr b])=qc2 n b:=by
 unfold qfn qc2;by_cases q:n.length=9
 ·rw[if_pos q,if_pos (by simp;omega),List.take_append_of_le_length (by omega),List.take_of_length_le (by omega)]
 ·rw[if_neg q,if_neg (by simp;omega)]
theorem qkt(n:List UInt8):qav (qax n)=qav n:=by
 unfold qax;split
 ·rfl
 ·next h=>
  simp only[not_or]at h;unfold qav;rw[if_neg h.1,if_neg h.2.1,if_neg h.2.2.1,if_neg h.2.2.2];rfl
theorem qm5(n:List UInt8)(h:qav n≠1):qax n=n:=by
 unfold qav at h;unfold qax;split
 ·rfl
 ·next q=>
  simp only[not_or]at q;rw[if_neg q.1,if_neg q.2.1,if_neg q.2.2.1,if_neg q.2.2.2]at h;exact absurd rfl h
theorem qsz(n:List UInt8):qb7 (qav n)=false:=by
 unfold qav
 repeat' split
 all_goals decide
theorem q5k(n:List UInt8)(m:Int)(a r:List UInt8)(f:Int):(Sp.mk m n a [] r f).read=0:=by
 have key:∀k,qbp [] (qcm n) k=0:=by
  intro k
  induction k with
  | zero=>rfl
  | succ k ih=>unfold qbp;rw[ih];simp[qf3]
 exact key _
theorem qzq(n:List UInt8)(t:List UInt8)(h:qax t=n):Par (qcg n) (if qav t=1 then Sp.start else⟨qav t,t,[],[],[],0⟩):=by
 subst h;unfold qcg;rw[qkt];by_cases h:qav t=1
 ·rw[if_pos h,if_pos h]
  exact qoq
 ·rw[if_neg h,if_neg h,qm5 t h]
  have ha:=qsz t;refine⟨rfl,fun q=>?_,fun q=>?_,fun q q'=>qm5 t h,fun _=>rfl,fun _=>q5k _ _ _ _ _,fun q=>by rw[ha]at q;cases q⟩
  all_goals
   exfalso;simp only at q
   revert q
   unfold qav
   repeat' split
   all_goals decide
theorem qxl(css:Bool)(left:Int)(b:UInt8)(h1:left≠1)(hb:b≠92):qcl css left b≠1:=by
 unfold qcl;rw[if_neg h1]
 repeat' split
 all_goals first | omega | exact absurd ‹_› hb
theorem qm4(css:Bool)(left:Int)(h1:left≠1):qcl css left 92=1:=by
 unfold qcl;rw[if_neg h1,if_neg (fun h=>absurd h.2 (by decide)),if_pos rfl]
theorem qss(css:Bool)(b:UInt8):qcl css 1 b≠1:=by
 unfold qcl;rw[if_pos rfl]
 repeat' split
 all_goals decide
theorem qgp(css:Bool)(run:List UInt8)(b:UInt8):qdy css (run++[b])=qcl css (qdy css run) b:=by simp[qdy]
theorem qyw(m:Int)(run:List UInt8)(h:qb7 m=true):decide (qdy (qbe m) (kept m run)=1)=decide (qdy (qbe m) run=1):=by
 unfold kept;rw[if_pos h];by_cases q:qdy (qbe m) run=0
 ·rw[if_pos q,q];rfl
 ·rw[if_neg q]
theorem quh:∀m:Nat,m≤33→qa3.getD m false=qb7 (m:Int):=by decide
theorem qy0(m:Nat)(hm:m≤33)(h:qb7 (m:Int)=true):19≤m:=by
 have:∀m:Nat,m≤33→qb7 (m:Int)=true→19≤m:=by decide
 exact this m hm h
theorem q7i(s:St)(t:Nat)(b:UInt8)(h:t≠34):(s.led1 t b).mode=t∧(s.led1 t b).elem=s.elem∧(s.led1 t b).read=s.read∧(s.led1 t b).esc=s.esc∧(t=3∨t=5→(s.led1 t b).name=qc2 s.name b):=by
 unfold St.led1;by_cases c3:t=3
 ·rw[if_pos c3];exact⟨rfl,rfl,rfl,rfl,fun _=>rfl⟩
 rw[if_neg c3];by_cases c5:t=5
 ·rw[if_pos c5];exact⟨rfl,rfl,rfl,rfl,fun _=>rfl⟩
 rw[if_neg c5];have no:¬(t=3∨t=5):=by omega
 by_cases c4:t=4∨t=10
 ·rw[if_pos c4];exact⟨rfl,rfl,rfl,rfl,fun q=>absurd q no⟩
 rw[if_neg c4,if_neg h];exact⟨rfl,rfl,rfl,rfl,fun q=>absurd q no⟩
theorem q54(s:St)(t:Nat)(b:UInt8)(h:t≠34):(s.led t b).mode=t∧(s.led t b).elem=(if t≠s.mode∧s.mode=3 then qax s.name else s.elem)∧(s.led t b).read=s.read∧(s.led t b).esc=s.esc∧(t=3∨t=5→(s.led t b).name=qc2 (if t=s.mode then s.name else[]) b):=by
 unfold St.led;by_cases q:t=s.mode
 ·rw[if_pos q,if_pos q,if_neg (fun z=>z.1 q)]
  exact q7i s t b h
 ·rw[if_neg q,if_neg q]
  obtain⟨a,c,d,e,f⟩:=q7i s.named t b h;refine⟨a,c.trans ?_,d,e,f⟩;unfold St.named;by_cases w:s.mode=3
  ·have:t≠s.mode∧s.mode=3:=⟨q,w⟩
   rw[if_pos this,if_pos w]
  ·have:¬(t≠s.mode∧s.mode=3):=fun z=>w z.2
   rw[if_neg this,if_neg w]
theorem qsh(m:Nat)(n e:List UInt8)(k:Int)(rd:Nat)(p:Sp)(b:UInt8)(hs:(St.mk m n e k rd false).Ok)(hp:Par (St.mk m n e k rd false) p)(r t:Nat)(PR:List UInt8)(PF:Int)
  (Hf:r=m→PR=p.run) (hb:qb7 (m:Int)=true→b≠92)
  (Ha:qm9 m b=true) (hr:qbw m b=r) (ht:qdc m b=t)
  (hT:tgt r b=t∨(tgt r b=-1∧t=34∧r=m)) :
  Par ((St.mk r n e k rd false).led t b) ((Sp.mk r p.tag p.attr p.inside PR PF).step1 r b):=by
 unfold qm9 at Ha;simp only[Bool.and_eq_true,decide_eq_true_eq,Bool.or_eq_true]at Ha;rw[hr,ht]at Ha;obtain⟨⟨⟨⟨⟨⟨⟨⟨⟨⟨r1,r2⟩,t1⟩,t2⟩,hf⟩,hg⟩,Hg⟩,h3⟩,h5⟩,h4⟩,Hj⟩:=Ha;have g1:=hs.name;have g2:=hs.named;have g3:=hs.bare;have g4:=hs.low;have ghi:=hs.hi;have e3:=hp.tagName;have e5:=hp.attrName;have e4:=hp.inTag;have e19:=hp.tag;have erd:=hp.read;have ees:=hp.esc;simp only at g1 g2 g3 g4 ghi e3 e5 e4 e19 erd ees;have hk:(m<19↔(t<19∨t=34))∧(m<19↔r<19):=by
  by_cases hm:m<19
  ·rw[if_pos hm]at hf
   simp only[Bool.and_eq_true,Bool.or_eq_true,decide_eq_true_eq]at hf;omega
  ·rw[if_neg hm]at hf
   simp only[Bool.and_eq_true,decide_eq_true_eq]at hf;omega
 clear hf;unfold Sp.step1;simp only;rcases hT with hT | ⟨hT,hc,Hc⟩
 ·have c34:t≠34:=by
   intro c34;have:=qn8 r b r2;rw[hT]at this;subst c34;rcases this with q | q | ⟨k,q,q'⟩<;>omega
  rw[hT,if_neg (by omega)];obtain⟨fm,fe,fr,fx,fn⟩:=q54 (St.mk r n e k rd false) t b c34;simp only at fe fr fx fn;generalize (St.mk r n e k rd false).led t b=S at fm fe fr fx fn;have he:t=3∨t=5∨t=4∨(6≤t∧t≤10)→r=m:=by
   intro q;rcases hg with z | z
   ·rcases z with z | z
    ·exact z
    ·exfalso
     have:∀c∈(0::named:List UInt8),tgt 1 c=1∨tgt 1 c=2:=by decide
     have h1:=this _ (qku b);rw[←qlu 1 (by omega) b]at h1;rw[z.2]at hT;omega
   ·omega
  refine⟨?_,fun q=>?_,fun q=>?_,fun q q'=>?_,fun q=>?_,fun q=>?_,fun q=>?_⟩
  ·rw[fm]
  ·rw[fm]at q
   have ha:=he (.inl q);rw[if_pos q]at h3;simp only[Bool.or_eq_true,decide_eq_true_eq]at h3;rw[fn (.inl q)];show (Sp.named ⟨(r:Int),p.tag,p.attr,p.inside,PR,PF⟩ r b t).tag=_;unfold Sp.named;rw[if_neg (by omega),if_pos (by omega)];show (if r=2 then[qcr b] else qfn (p.tag++[qcr b]))=qc2 (if t=r then n else[]) b;rcases h3 with z | z
   ·rw[if_pos (by omega),if_neg (by omega)];rfl
   ·rw[if_neg (by omega),if_pos (by omega)]
    rw[e3 z,qlk _ _ g1]
  ·rw[fm]at q
   have ha:=he (.inr (.inl q));rw[fn (.inr q)];show (Sp.named ⟨(r:Int),p.tag,p.attr,p.inside,PR,PF⟩ r b t).attr=_;unfold Sp.named;rw[if_neg (by omega),if_neg (by omega),if_pos (by omega)];show (if r=5 then qfn (p.attr++[qcr b]) else[qcr b])=qc2 (if t=r then n else[]) b;by_cases z:r=5
   ·rw[if_pos z,if_pos (by omega)]
    rw[e5 (by omega),qlk _ _ g1]
   ·rw[if_neg z,if_neg (by omega)];rfl
  ·rw[fm]at q q'
   rw[fe];have ha:=he (by omega);have h4:3≤m∧m≤10:=by
    by_cases z:t=5
    ·rw[if_pos z]at h5
     simp only[Bool.or_eq_true,decide_eq_true_eq]at h5;omega
    ·rw[if_pos (by omega)]at h4
     simpa only [Bool.and_eq_true,decide_eq_true_eq] using h4
   have He:(Sp.named ⟨(r:Int),p.tag,p.attr,p.inside,PR,PF⟩ r b t).tag=p.tag:=by
    unfold Sp.named;rw[if_neg (by omega),if_neg (by omega)];split
    ·rfl
    ·split
     ·rfl
     ·rw[if_pos (by omega)]
   rw[He];by_cases z:r=3
   ·have y:t≠r∧r=3:=⟨by omega,z⟩
    rw[if_pos y,e3 (by omega)]
   ·have y:¬(t≠r∧r=3):=fun y=>z y.2
    rw[if_neg y];exact e4 (by omega) (by omega)
  ·rw[fm]at q
   have z:¬(t≠r∧r=3):=by omega
   rw[fe,if_neg z];show (Sp.named ⟨(r:Int),p.tag,p.attr,p.inside,PR,PF⟩ r b t).tag=_;unfold Sp.named;rw[if_pos (by omega)];exact e19 (by omega)
  ·rw[fm]at q
   rw[fr];show qbp (Sp.named ⟨(r:Int),p.tag,p.attr,p.inside,PR,PF⟩ r b t).inside (qcm (Sp.named ⟨(r:Int),p.tag,p.attr,p.inside,PR,PF⟩ r b t).tag) (qcm (Sp.named ⟨(r:Int),p.tag,p.attr,p.inside,PR,PF⟩ r b t).tag).length=_;unfold Sp.named;rw[if_pos (by omega)];exact erd (by omega)
  ·rw[fm]at q
   rw[fx,fm];show _=decide (qdy (qbe t) (if _ then _ else _)=1);by_cases c:(t:Int)=r∧runs t=true
   ·rw[if_pos c,qyw _ _ q,qgp]
    have Hb:t=r:=by omega
    have ha:r=m:=by
     by_cases y:r=m
     ·exact y
     ·exfalso
      have Hi:r=qg4 m:=by
       unfold qbw at hr;split at hr
       ·exact hr.symm
       ·exact absurd hr.symm y
      have:∀m:Nat,m≤33→qb7 (qg4 m:Nat)=false:=by decide
      rw[Hb,Hi,this m ghi]at q;cases q
    have hj:=ees (by rw[←ha,←Hb];exact q);rw[eq_comm,decide_eq_false_iff_not];refine qxl _ _ _ ?_ (hb (by rw[←ha,←Hb];exact q));rw[Hf ha,Hb,ha];simpa using hj.symm
   ·rw[if_neg c]
    rfl
 ·subst hc Hc
  rw[hT,if_pos rfl];have hm:=Hg;simp only[if_true,Bool.and_eq_true,decide_eq_true_eq]at hm;have hl:(St.mk r n e k rd false).led 34 b=qcg (if r=3 then qax n else e):=by
   unfold St.led;have z:¬ 34=(St.mk r n e k rd false).mode:=by show ¬ 34=r;omega
   rw[if_neg z];rfl
  rw[hl];refine qzq _ _ ?_;split
  ·next c=>rw[e3 c]
  ·next c=>exact e4 (by omega) (by omega)
theorem qoc(m:Nat)(n e:List UInt8)(k:Int)(rd:Nat)(p:Sp)(b:UInt8)(hs:(St.mk m n e k rd false).Ok)(hp:Par (St.mk m n e k rd false) p)(PR:List UInt8)(PF:Int)(PM:Int)(hM:PM=m)(Hb:PR=p.run)(hb:qb7 (m:Int)=true→b≠92) :
  Par ((St.mk m n e k rd false).table b) ((Sp.mk PM p.tag p.attr p.inside PR PF).step m b):=by
 subst hM;rw[qnh];have h1:=hs.lo;have h2:=hs.hi;simp only at h1 h2;have ha:=qlq m h1 h2 b;have Ha:=qog m h1 h2 b;unfold qtb at ha;unfold Sp.step;by_cases c2:tgt m b=-2
 ·rw[if_pos c2]at ha ⊢
  simp only[Bool.and_eq_true,decide_eq_true_eq]at ha;obtain⟨⟨a1,a2⟩,a3⟩:=ha;have ne:qa8 m≠m:=by
   intro q;have:=qjh m b;rw[q]at this;exact this c2
  exact qsh m n e k rd p b hs hp (qa8 m) (qdc m b) [] PF (fun q=>absurd q ne) hb Ha a1 rfl (.inl a2.symm) |> fun h=>by rw[a1];exact h
 ·rw[if_neg c2]at ha ⊢
  by_cases c1:tgt m b=-1
  ·rw[if_pos c1]at ha
   simp only[Bool.and_eq_true,decide_eq_true_eq]at ha;rw[ha.1.1.1];exact qsh m n e k rd p b hs hp m (qdc m b) PR PF (fun _=>Hb) hb Ha ha.1.1.1 rfl (.inr ⟨c1,ha.1.1.2,rfl⟩)
  ·rw[if_neg c1]at ha
   simp only[Bool.and_eq_true,decide_eq_true_eq]at ha;rw[ha.1];exact qsh m n e k rd p b hs hp m (qdc m b) PR PF (fun _=>Hb) hb Ha ha.1 rfl (.inl ha.2.symm)
theorem qrb(m:Nat)(hm:m≤33)(h:qb7 (m:Int)=true):tgt m 92=m:=by
 have:∀m:Nat,m≤33→qb7 (m:Int)=true→tgt m 92=m:=by decide
 exact this m hm h
theorem q5w(s:St)(p:Sp)(b:UInt8)(hs:s.Ok)(hp:Par s p):Par (s.behind b) (p.next b):=by
 obtain⟨m,n,e,k,rd,x⟩:=s;have h1:=hs.lo;have h2:=hs.hi;have hb:=hs.calm;have Hb:=hp.mode;simp only at h1 h2 hb Hb;unfold Sp.next;rw[Hb,Int.toNat_natCast];by_cases hm:19≤m
 ·rw[if_pos hm]
  have hg:=hp.tag hm;have Hg:=hp.read hm;simp only at hg Hg;have Ha:∀PR PF,(Sp.mk m p.tag p.attr (qcb (p.inside++[b])) PR PF).read=(St.mk m n e k rd x).readEnd b:=by
   intro PR PF;show qbp (qcb (p.inside++[b])) (qcm p.tag) (qcm p.tag).length=_;rw[hg,qok _ _ _ hs.elem];have hr:qbp p.inside (qcm e) (qcm e).length=rd:=by
    have:p.read=qbp p.inside (qcm e) (qcm e).length:=by unfold Sp.read;rw[hg]
    rw[←this];exact Hg
   rw[hr];rfl
  have Hi:(St.mk m n e k ((St.mk m n e k rd x).readEnd b) x).Ok:=
   ⟨h1,h2,hs.name,hs.named,hs.elem,hs.bare,fun hh=>by simp only at hh;omega,hs.calm,qjp _ b,hs.wrap,hs.high⟩
  have He:∀PF,Par (St.mk m n e k ((St.mk m n e k rd x).readEnd b) x) (Sp.mk m p.tag p.attr (qcb (p.inside++[b])) p.run PF):=fun PF=>
   ⟨rfl,hp.tagName,hp.attrName,hp.inTag,hp.tag,fun _=>Ha _ _,hp.esc⟩
  unfold Sp.element St.behind;rw[if_pos hm];have hc:(St.mk m n e k rd x).ends b=true↔(p.read=(qcm p.tag).length∧among b qdi=true):=by
   unfold St.ends;rw[Bool.and_eq_true,decide_eq_true_eq,Hg,hg];rfl
  by_cases ce:p.read=(qcm p.tag).length∧among b qdi=true
  ·rw[if_pos ce,if_pos (hc.2 ce)]
   unfold qcy;by_cases c62:b=62
   ·rw[if_pos c62,if_pos c62];exact qoq
   ·rw[if_neg c62,if_neg c62]
    refine⟨rfl,fun h=>(by simp at h),fun h=>(by simp at h),fun h h'=>(by simp at h'),fun h=>(by simp at h),fun h=>(by simp at h),fun h=>(by revert h;decide)⟩
  ·rw[if_neg ce,if_neg (fun h=>ce (hc.1 h))]
   have hf:=quh m h2;generalize hj:(St.mk m n e k rd x).readEnd b=rd' at *;show Par ((St.mk m n e k rd' x).quiet b) _;unfold St.quiet;simp only;rw[hf];by_cases cs:qb7 (m:Int)=true
   ·have Hc:=hp.esc cs
    simp only at Hc;by_cases c1:qdy (qbe m) p.run=1
    ·have w:qb7 (m:Int)=true∧qdy (qbe m) p.run=1:=⟨cs,c1⟩
     rw[if_pos w];have hx:x=true:=by rw[Hc,c1];rfl
     subst hx;rw[cs];show Par (St.mk m n e k rd' false) _;refine⟨rfl,hp.tagName,hp.attrName,hp.inTag,hp.tag,fun _=>Ha _ _,fun _=>?_⟩;show false=_;rw[eq_comm,decide_eq_false_iff_not,qgp,c1];exact qss _ _
    ·have w:¬(qb7 (m:Int)=true∧qdy (qbe m) p.run=1):=fun h=>c1 h.2
     have w19:¬m=19:=by intro h;subst h;revert cs;decide
     rw[if_neg w,if_neg w19];have hx:x=false:=by rw[Hc];exact decide_eq_false c1
     subst hx;by_cases cb:b=92
     ·subst cb
      rw[cs];show Par (St.mk m n e k rd' true) _;unfold Sp.step Sp.step1;rw[qrb m h2 cs,if_neg (by omega),if_neg (by omega)];have Hj:Sp.named ⟨(m:Int),p.tag,p.attr,qcb (p.inside++[92]),p.run,p.far⟩ m 92 (m:Int)=⟨0,p.tag,[],qcb (p.inside++[92]),[],0⟩:=by
       unfold Sp.named;rw[if_pos (by omega)]
      rw[Hj];have Hf:(m:Int)=(m:Int)∧runs (m:Int)=true:=⟨rfl,by unfold runs;rw[cs];simp⟩;rw[if_pos Hf];refine⟨rfl,fun q=>?_,fun q=>?_,fun q q'=>?_,hp.tag,fun _=>Ha [] 0,fun _=>?_⟩
      ·simp only at q;omega
      ·simp only at q;omega
      ·simp only at q';omega
      ·show true=_
       rw[qyw _ _ cs,qgp,qm4 _ _ c1];rfl
     ·have w2:¬(qb7 (m:Int) && (false || b==92))=true:=by rw[cs];simpa using cb
      rw[if_neg w2];exact qoc m n e k rd' ⟨m,p.tag,p.attr,qcb (p.inside++[b]),p.run,p.far⟩ b Hi (He _) _ _ _ rfl rfl (fun _=>cb)
   ·have cs':=Bool.eq_false_iff.2 cs
    have w:¬(qb7 (m:Int)=true∧qdy (qbe m) p.run=1):=fun h=>cs h.1;have w2:¬(qb7 (m:Int) && (x || b==92))=true:=by rw[cs'];simp
    rw[if_neg w,if_neg w2];have hx:x=false:=hb (by rw[hf];exact cs');subst hx;by_cases w19:m=19
    ·subst w19
     rw[if_pos rfl];have ha:=qlq 19 (by omega) (by omega) b;have ht:tgt 19 b=19:=rfl;unfold qtb at ha;rw[ht,if_neg (by omega),if_neg (by omega)]at ha;simp only[Bool.and_eq_true,decide_eq_true_eq]at ha;rw[qnh];show Par ((St.mk (qbw 19 b) n e k rd' false).led (qdc 19 b) b) _;rw[ha.1,show qdc 19 b=19 by omega];exact⟨rfl,hp.tagName,hp.attrName,hp.inTag,hp.tag,fun _=>Ha [] 0,fun h=>by replace h:qb7 19=true:=h;cases h⟩
    ·rw[if_neg w19]
     exact qoc m n e k rd' ⟨m,p.tag,p.attr,qcb (p.inside++[b]),p.run,p.far⟩ b Hi (He _) _ _ _ rfl rfl (fun h=>absurd h cs)
 ·rw[if_neg hm]
  unfold St.behind;rw[if_neg hm];unfold St.quiet;have he:qa3.getD m false=false:=q37 m (by omega);have hx:x=false:=hb he;subst hx;have w2:¬(qa3.getD m false && (false || b==92))=true:=by rw[he];simp
  show Par (if(qa3.getD m false && (false || b==92))=true then _ else _) _;rw[if_neg w2];exact qoc m n e k rd p b hs hp p.run p.far p.mode Hb rfl (fun h=>by have:=qy0 m h2 h;omega)
def qc7(p:Sp)(l:List UInt8):Sp:=l.foldl Sp.next p
def St.nowRead(s:St)(b:UInt8):Nat:=if 19≤s.mode then s.readEnd b else s.read
theorem qzl(x:Sx)(b:UInt8)(hm:19≤x.st.mode)(he:x.st.ends b=true):x.behind b=⟨⟨qcy b,[],[],0,0,false⟩,Mk.none⟩:=by
 have h1:x.st.behind b=⟨qcy b,[],[],0,0,false⟩:=by unfold St.behind;rw[if_pos hm,if_pos he]
 have h2:qev x.st x.ma b=Mk.none:=by unfold qev;rw[if_pos ⟨hm,he⟩]
 show Sx.mk (x.st.behind b) (qev x.st x.ma b)=_;rw[h1,h2]
theorem qzk(x:Sx)(b:UInt8)(he:¬(19≤x.st.mode∧x.st.ends b=true)):x.behind b=⟨(St.mk x.st.mode x.st.name x.st.elem x.st.kind (x.st.nowRead b) x.st.esc).quiet b,qkk x.st x.ma b⟩:=by
 have h1:x.st.behind b=(St.mk x.st.mode x.st.name x.st.elem x.st.kind (x.st.nowRead b) x.st.esc).quiet b:=by
  unfold St.behind St.nowRead;by_cases hm:19≤x.st.mode
  ·rw[if_pos hm,if_pos hm,if_neg (fun q=>he ⟨hm,q⟩)]
  ·rw[if_neg hm,if_neg hm]
 have h2:qev x.st x.ma b=qkk x.st x.ma b:=by unfold qev;rw[if_neg he]
 show Sx.mk (x.st.behind b) (qev x.st x.ma b)=_;rw[h1,h2]
theorem qve(x:Sx)(b:UInt8)(he:¬(19≤x.st.mode∧x.st.ends b=true))(hq:(qa3.getD x.st.mode false && (x.st.esc || b==92))=true) :
  x.behind b=⟨⟨x.st.mode,x.st.name,x.st.elem,x.st.kind,x.st.nowRead b,!x.st.esc⟩,qa7 x.st.mode x.st.esc b⟩:=by
 rw[qzk x b he];unfold St.quiet qkk;simp only;rw[hq,if_pos rfl,if_pos rfl]
theorem qph(x:Sx)(b:UInt8)(r t:Nat)(he:¬(19≤x.st.mode∧x.st.ends b=true))(hq:(qa3.getD x.st.mode false && (x.st.esc || b==92))=false)(hr:qbw x.st.mode b=r)(ht:qdc x.st.mode b=t) :
  x.behind b=Sx.led ⟨⟨r,x.st.name,x.st.elem,x.st.kind,x.st.nowRead b,x.st.esc⟩,x.ma⟩ t b:=by
 rw[qzk x b he];unfold St.quiet qkk;simp only;rw[hq,if_neg (by simp),if_neg (by simp),qnh];simp only;rw[hr,ht];rfl
theorem at_a(m:Nat)(b:UInt8)(hT:¬qc1 m b=0):qbw m b=m∧qdc m b=or3 (qc1 m b) (qeo.getD m 0) m:=by
 have h:qbw m b=m:=by unfold qbw;rw[if_neg (fun q=>hT q.1)]
 unfold qdc;rw[h];exact⟨rfl,rfl⟩
theorem at_b(m:Nat)(b:UInt8)(hT:qc1 m b=0)(hR:qeb.getD m 0=0):qbw m b=m∧qdc m b=or3 0 (qeo.getD m 0) m:=by
 have h:qbw m b=m:=by unfold qbw;rw[if_neg (fun q=>q.2 hR)]
 unfold qdc;rw[h,hT];exact⟨rfl,rfl⟩
theorem at_c(m R:Nat)(b:UInt8)(hT:qc1 m b=0)(hR:qeb.getD m 0=R)(h0:R≠0):qbw m b=R∧qdc m b=or3 (qc1 R b) (qeo.getD R 0) R:=by
 have h:qbw m b=R:=by unfold qbw qg4;rw[if_pos ⟨hT,by rw[hR];exact h0⟩,hR]
 unfold qdc;rw[h];exact⟨rfl,rfl⟩
structure MkOk(k:Mk):Prop where
 hex:0≤k.hex∧k.hex≤5
 pct:0≤k.pct∧k.pct≤2
theorem qi4:MkOk Mk.none:=⟨by decide,by decide⟩
theorem qzd(n:Int)(b:UInt8)(m:Int)(h:n≤m)(hm:0≤m):0≤qdq n b∧qdq n b≤m:=by
 unfold qdq;split
 ·next q=>omega
 ·omega
theorem qwd(kind:Int)(m:Nat)(k:Mk)(b:UInt8)(h:MkOk k):MkOk (qcd kind m k b):=by
 have h1:=h.hex;have h2:=h.pct;have f1:=qzd k.hex b 5 h1.2 (by omega);have f2:=qzd k.pct b 2 h2.2 (by omega);refine⟨f1,?_⟩;show 0≤(if _ then _ else _:Int)∧(if _ then _ else _:Int)≤2;split
 ·split
  ·omega
  ·exact f2
 ·omega
theorem qm3(m:Nat)(e:Bool)(b:UInt8):MkOk (qa7 m e b):=by
 unfold qa7;split
 ·exact qi4
 ·split
  ·next r hr=>
   have hm:=List.mem_of_find?_eq_some hr;have:∀r∈qey,0≤r.2.2.2∧r.2.2.2≤5:=by decide
   exact⟨this r hm,by show (0:Int)≤0∧(0:Int)≤2;omega⟩
  ·exact qi4
theorem q55(s:St)(k:Mk)(t:Nat)(b:UInt8)(h:MkOk k):MkOk (qle s k t b):=by
 unfold qle;split
 ·exact qwd _ _ _ _ h
 ·exact qi4
theorem qx5(s:St)(k:Mk)(b:UInt8)(h:MkOk k):MkOk (qev s k b):=by
 unfold qev;split
 ·exact qi4
 ·unfold qkk
  split
  ·exact qm3 _ _ _
  ·exact q55 _ _ _ _ h
structure SxOk(x:Sx):Prop where
 st:x.st.Ok
 ma:MkOk x.ma
theorem qjm:SxOk Sx.start:=⟨q5h,qi4⟩
theorem qkd{x:Sx}(b:UInt8)(h:SxOk x):SxOk (x.behind b):=⟨qvf b h.st,qx5 _ _ b h.ma⟩
theorem qto(l:List UInt8):∀x:Sx,SxOk x→SxOk (qaw x l):=by
 induction l with
 | nil=>intro x h;exact h
 | cons b l ih=>intro x h;exact ih _ (qkd b h)
end Go.Proofs.YtfkhljmiehdgmaaGreatDoor.Pl
