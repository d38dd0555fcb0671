/-
  Steps of the proof.
-/
import Derived.Test.YtfkhljmiehdgmaaGreatDoorCmAC
namespace Go.Proofs.YtfkhljmiehdgmaaGreatDoor.Pl
theorem qle(l e:List UInt8)(n:Nat)(hn:n<=e.length):qf5 l e n=true↔e.take n <:+ l.map qcr:=by
 unfold qf5;rw[Bool.and_eq_true,decide_eq_true_eq,beq_iff_eq];constructor
 ·rintro⟨h,q⟩
  rw[<-q,List.map_drop];exact List.drop_suffix _ _
 ·intro h
  have hl:=h.length_le;rw[List.length_take,List.length_map,Nat.min_eq_left hn]at hl;refine⟨hl,?_⟩;rw[List.map_drop];have:=List.suffix_iff_eq_drop.1 h;rw[List.length_take,List.length_map,Nat.min_eq_left hn]at this;exact this.symm
theorem qot(l e:List UInt8):∀k,qbp l e k<=k
 |0=>Nat.le_refl _
 |k+1=>by
   unfold qbp;split
   ·exact Nat.le_refl _
   ·exact Nat.le_succ_of_le (qot l e k)
theorem ql8(l e:List UInt8):∀k,qbp l e k=0\/qf5 l e (qbp l e k)=true
 |0=>.inl rfl
 |k+1=>by
   unfold qbp;split
   ·next h=>exact .inr h
   ·exact ql8 l e k
theorem ql7(l e:List UInt8):∀k n,n<=k->qf5 l e n=true->n<=qbp l e k
 |0,n,hn,_=>by omega
 |k+1,n,hn,h=>by
   unfold qbp;split
   ·exact hn
   ·next h'=>
    rcases Nat.lt_or_ge n (k+1)with q|q
    ·exact ql7 l e k n (by omega) h
    ·have:n=k+1:=by omega
     subst this;exact absurd h h'
def Once(e:List UInt8):Prop:=∀j,1<=j->e[j]?≠some 60
theorem qsx(l e:List UInt8)(he:Once e)(h0:e[0]?=some 60)(n k:Nat)(hn:n<=e.length)(hk:k<=e.length)(h1:1<=n)(hb:n<=k)(hN:qf5 l e n=true)(hK:qf5 l e k=true):n=k:=by
 rw[qle _ _ _ hn]at hN;rw[qle _ _ _ hk]at hK;obtain⟨a,ha⟩:=hN;obtain⟨c,hc⟩:=hK;have Ha:a.length+n=c.length+k:=by
  have:=congrArg List.length (ha.trans hc.symm);simpa [List.length_append,List.length_take,Nat.min_eq_left hn,Nat.min_eq_left hk]using this
 rcases Nat.lt_or_ge n k with q|q
 ·exfalso
  have g1:(a++e.take n)[a.length]?=some 60:=by
   rw[List.getElem?_append_right (Nat.le_refl _),Nat.sub_self,List.getElem?_take,if_pos (by omega)];exact h0
  have g2:(c++e.take k)[a.length]?=e[k - n]?:=by
   rw[List.getElem?_append_right (by omega),List.getElem?_take,if_pos (by omega),show a.length - c.length=k - n by omega]
  rw[ha,<-hc,g2]at g1;exact he (k - n) (by omega) g1
 ·omega
theorem qw3(l e:List UInt8)(b:UInt8)(n:Nat)(hn:n<e.length):qf5 (l++[b]) e (n+1)=true↔qf5 l e n=true/\e[n]?=some (qcr b):=by
 rw[qle _ _ _ hn,qle _ _ _ (Nat.le_of_lt hn)];have ht:e.take (n+1)=e.take n++[e[n]]:=List.take_succ_eq_append_getElem hn;rw[ht,List.map_append,List.map_singleton,List.getElem?_eq_getElem hn];constructor
 ·rintro⟨a,ha⟩
  rw[<-List.append_assoc]at ha;obtain⟨x,y⟩:=List.append_inj' ha rfl;simp only[List.cons.injEq,and_true]at y;exact⟨⟨a,x⟩,by rw[y]⟩
 ·rintro⟨⟨a,ha⟩,hb⟩
  simp only[Option.some.injEq]at hb;exact⟨a,by rw[<-List.append_assoc,ha,hb]⟩
theorem qqq(l e:List UInt8):qf5 l e 0=true:=by simp[qf5]
theorem qw5(l e:List UInt8)(b:UInt8)(he:Once e)(h0:e[0]?=some 60) :
  qbp (l++[b]) e e.length=if e[qbp l e e.length]?=some (qcr b)then qbp l e e.length+1 else if b=60 then 1 else 0:=by
 have Ha:0<e.length:=by
  rcases Nat.eq_zero_or_pos e.length with q|q
  ·rw[List.eq_nil_of_length_eq_zero q]at h0;simp at h0
  ·exact q
 have He:qcr b=60↔b=60:=by
  have:∀n∈List.range 256,(qcr (UInt8.ofNat n)=60↔UInt8.ofNat n=60):=by decide +kernel
  have:=this b.toNat (List.mem_range.2 b.toNat_lt)
  rwa [UInt8.ofNat_toNat]at this
 have hz:qf5 l e (qbp l e e.length)=true:=by
  rcases ql8 l e e.length with q|q
  ·rw[q];exact qqq _ _
  ·exact q
 have Hb:∀n,n<=e.length->qf5 l e n=true->n=0\/n=qbp l e e.length:=by
  intro n hn h;rcases Nat.eq_zero_or_pos n with q|q
  ·exact .inl q
  ·have:=ql7 l e e.length n hn h
   exact .inr (qsx l e he h0 n _ hn (qot _ _ _) q this h hz)
 generalize qbp l e e.length=r at *;have ha:∀n,n+1<=e.length->qf5 (l++[b]) e (n+1)=true->(n=0\/n=r)/\e[n]?=some (qcr b):=by
  intro n hn h;obtain⟨p,q⟩:=(qw3 l e b n (by omega)).1 h;exact⟨Hb n (by omega) p,q⟩
 have Hc:=qot (l++[b]) e e.length;have hb:=ql8 (l++[b]) e e.length;have hc:=ql7 (l++[b]) e e.length;generalize qbp (l++[b]) e e.length=R at *;by_cases c1:e[r]?=some (qcr b)
 ·rw[if_pos c1]
  have hr:=(List.getElem?_eq_some_iff.1 c1).1;have hR:=(qw3 l e b r hr).2 ⟨hz,c1⟩;have g1:=hc (r+1) hr hR;have g2:qf5 (l++[b]) e R=true:=by
   rcases hb with q|q
   ·omega
   ·exact q
  exact(qsx (l++[b]) e he h0 (r+1) R hr Hc (by omega) g1 hR g2).symm
 ·rw[if_neg c1]
  by_cases c2:b=60
  ·rw[if_pos c2]
   have hR:=(qw3 l e b 0 Ha).2 ⟨qqq _ _,by rw[h0,He.2 c2]⟩;have g1:=hc 1 Ha hR;have g2:qf5 (l++[b]) e R=true:=by
    rcases hb with q|q
    ·omega
    ·exact q
   exact(qsx (l++[b]) e he h0 1 R Ha Hc (by omega) g1 hR g2).symm
  ·rw[if_neg c2]
   rcases hb with q|q
   ·exact q
   ·rcases Nat.eq_zero_or_pos R with z|z
    ·exact z
    ·exfalso
     obtain⟨n,rfl⟩:∃n,R=n+1:=⟨R - 1,by omega⟩;obtain⟨x,y⟩:=ha n Hc q;rcases x with rfl|rfl
     ·rw[h0]at y
      simp only[Option.some.injEq]at y;exact c2 (He.1 y.symm)
     ·exact c1 y
theorem qw4(l e:List UInt8)(he:e.length<=12):qbp (qcb l) e e.length=qbp l e e.length:=by
 have key:∀n,n<=e.length->qf5 (qcb l) e n=qf5 l e n:=by
  intro n hn;unfold qcb;split
  ·next h=>
   unfold qf5;rw[List.length_drop,List.drop_drop];rw[show l.length - 12+(l.length - (l.length - 12) - n)=l.length - n by omega];have:decide (n<=l.length - (l.length - 12))=decide (n<=l.length):=by rw[decide_eq_decide];omega
   rw[this]
  ·rfl
 have:∀k,k<=e.length->qbp (qcb l) e k=qbp l e k:=by
  intro k
  induction k with
  |zero=>intro _;rfl
  |succ k ih=>intro hk;unfold qbp;rw[key _ hk,ih (by omega)]
 exact this _ (Nat.le_refl _)
theorem q6a{n:List UInt8}(h:qiw n):Once (qcm n)/\(qcm n)[0]?=some 60/\(qcm n).length<=12:=by
 refine⟨?_,rfl,by have:=qjw h;unfold qcm;simp only[List.length_cons];omega⟩;have key:∀n:List UInt8,qiw n->(qcm n).length<=10:=by
  intro n h;have:=qjw h;unfold qcm;simp only[List.length_cons];omega
 intro j hj hq;have hl:=(List.getElem?_eq_some_iff.1 hq).1;have ha:=key n h;have hb:(List.range 10).all (fun j=>j==0 || !((qcm n)[j]?==some 60))=true:=by
  rcases h with rfl|rfl|rfl|rfl|rfl<;>decide
 have:=List.all_eq_true.1 hb j (List.mem_range.2 (by omega));simp only[Bool.or_eq_true,beq_iff_eq,Bool.not_eq_true',beq_eq_false_iff_ne]at this;rcases this with h|h
 ·omega
 ·exact h hq
theorem qor(l n:List UInt8)(b:UInt8)(h:qiw n) :
  qbp (qcb (l++[b])) (qcm n) (qcm n).length=if(qcm n)[qbp l (qcm n) (qcm n).length]?=some (qcr b)then qbp l (qcm n) (qcm n).length+1 else if b=60 then 1 else 0:=by
 obtain⟨a,c,d⟩:=q6a h;rw[qw4 _ _ d,qw5 _ _ _ a c]
theorem qlv(b:UInt8):among b qi0=qc2 b:=by
 have:∀n∈List.range 256,among (UInt8.ofNat n) qi0=qc2 (UInt8.ofNat n):=by decide +kernel
 have:=this b.toNat (List.mem_range.2 b.toNat_lt)
 rwa [UInt8.ofNat_toNat]at this
theorem q1c(b:UInt8):qc2 (cls b)=qc2 b:=by
 have:∀n∈List.range 256,qc2 (cls (UInt8.ofNat n))=qc2 (UInt8.ofNat n):=by decide +kernel
 have:=this b.toNat (List.mem_range.2 b.toNat_lt)
 rwa [UInt8.ofNat_toNat]at this
theorem qyi(b:UInt8)(l:List UInt8)(hl:l.all (fun c=>among c named && !qc2 c)=true):among b l=among (cls b) l:=by
 have h1:l.all (fun c=>among c named)=true:=by
  rw[List.all_eq_true]at hl |-;intro c hc;have:=hl c hc;rw[Bool.and_eq_true]at this;exact this.1
 rw[<-qv3 b l h1];unfold qd8;by_cases hb:qc2 b=true
 ·rw[if_pos hb]
  have no:∀x,qc2 x=true->among x l=false:=by
   intro x hx;rw[Bool.eq_false_iff];intro hq;have:=List.all_eq_true.1 hl x (qg8.1 hq);rw[hx]at this;simp at this
  rw[no b hb,no 97 (by decide)]
 ·rw[if_neg hb]
def q3c(l:List (List UInt8×Int)):Bool:=l.all fun r=>r.1==qi0 || r.1.all (fun c=>among c named && !qc2 c)
theorem q0q:((List.range 34).all fun m=>q3c (qe3 m))=true:=by decide +kernel
theorem ql0(m:Nat)(hm:m<=33)(b:UInt8):tgt m b=tgt m (cls b):=by
 have hp:=List.all_eq_true.1 q0q m (List.mem_range.2 (by omega));unfold tgt;rw[qme (qe3 m)];intro r hr;have:=List.all_eq_true.1 hp r hr;rw[Bool.or_eq_true,beq_iff_eq]at this;unfold qgz;rcases this with h|h
 ·rw[h,qlv,qlv,q1c]
 ·rw[qyi b r.1 h]
def qtl(m:Nat)(c:UInt8):Bool:=
 if tgt m c=-2 then decide (qbw m c=qa8 m) && decide ((qde m c:Int)=tgt (qa8 m) c) && decide (tgt (qa8 m) c≠-1)
 else if tgt m c=-1 then decide (qbw m c=m) && decide (qde m c=34) && decide (3<=m) && decide (m<=10)
 else decide (qbw m c=m) && decide ((qde m c:Int)=tgt m c)
theorem q5b:((List.range 34).all fun m=>m==0 || (0::named).all fun c=>qtl m c)=true:=by decide +kernel
theorem qlw(m:Nat)(h1:1<=m)(h2:m<=33)(b:UInt8):qtl m b=true:=by
 have e:qtl m b=qtl m (cls b):=by
  have ha:=qk1 m;unfold qtl;rw[ql0 m h2 b,ql6,qur,ql0 _ ha b]
 rw[e];have:=(List.all_eq_true.1 q5b) m (List.mem_range.2 (by omega));simp only[Bool.or_eq_true,beq_iff_eq]at this;rcases this with h|h
 ·omega
 ·exact List.all_eq_true.1 h _ (qky b)
structure Par(s:St)(p:Sp):Prop where
 mode:p.mode=(s.mode:Int)
 tagName:s.mode=3->p.tag=s.name
 attrName:s.mode=5->p.attr=s.name
 inTag:4<=s.mode->s.mode<=10->qax p.tag=s.elem
 tag:19<=s.mode->p.tag=s.elem
 read:19<=s.mode->p.read=s.read
 esc:qb8 s.mode=true->s.esc=decide (qd1 (qbe s.mode) p.run=1)
theorem qox:Par St.start Sp.start:=
 ⟨rfl,fun h=>(by cases h),fun h=>(by cases h),fun h=>(by revert h;decide),fun h=>(by revert h;decide),fun h=>(by revert h;decide),fun h=>(by revert h;decide)⟩
theorem qlq(n:List UInt8)(b:UInt8)(h:n.length<=9):qfp (n++[qcr b])=qc4 n b:=by
 unfold qfp qc4;by_cases q:n.length=9
 ·rw[if_pos q,if_pos (by simp;omega),List.take_append_of_le_length (by omega),List.take_of_length_le (by omega)]
 ·rw[if_neg q,if_neg (by simp;omega)]
theorem qkx(n:List UInt8):qaw (qax n)=qaw n:=by
 unfold qax;split
 ·rfl
 ·next h=>
  simp only[not_or]at h;unfold qaw;rw[if_neg h.1,if_neg h.2.1,if_neg h.2.2.1,if_neg h.2.2.2];rfl
theorem qnb(n:List UInt8)(h:qaw n≠1):qax n=n:=by
 unfold qaw at h;unfold qax;split
 ·rfl
 ·next q=>
  simp only[not_or]at q;rw[if_neg q.1,if_neg q.2.1,if_neg q.2.2.1,if_neg q.2.2.2]at h;exact absurd rfl h
theorem qs9(n:List UInt8):qb8 (qaw n)=false:=by
 unfold qaw
 repeat' split
 all_goals decide
theorem q5z(n:List UInt8)(m:Int)(a r:List UInt8)(f:Int):(Sp.mk m n a [] r f).read=0:=by
 have key:∀k,qbp [] (qcm n) k=0:=by
  intro k
  induction k with
  |zero=>rfl
  |succ k ih=>unfold qbp;rw[ih];simp[qf5]
 exact key _
theorem qz3(n:List UInt8)(t:List UInt8)(h:qax t=n):Par (qcg n) (if qaw t=1 then Sp.start else⟨qaw t,t,[],[],[],0⟩):=by
 subst h;unfold qcg;rw[qkx];by_cases h:qaw t=1
 ·rw[if_pos h,if_pos h]
  exact qox
 ·rw[if_neg h,if_neg h,qnb t h]
  have ha:=qs9 t;refine⟨rfl,fun q=>?_,fun q=>?_,fun q q'=>qnb t h,fun _=>rfl,fun _=>q5z _ _ _ _ _,fun q=>by rw[ha]at q;cases q⟩
  all_goals
   exfalso;simp only at q
   revert q
   unfold qaw
   repeat' split
   all_goals decide
theorem qxy(css:Bool)(left:Int)(b:UInt8)(h1:left≠1)(hb:b≠92):qcl css left b≠1:=by
 unfold qcl;rw[if_neg h1]
 repeat' split
 all_goals first|omega|exact absurd ‹_› hb
theorem qna(css:Bool)(left:Int)(h1:left≠1):qcl css left 92=1:=by
 unfold qcl;rw[if_neg h1,if_neg (fun h=>absurd h.2 (by decide)),if_pos rfl]
theorem qs2(css:Bool)(b:UInt8):qcl css 1 b≠1:=by
 unfold qcl;rw[if_pos rfl]
 repeat' split
 all_goals decide
theorem qgs(css:Bool)(run:List UInt8)(b:UInt8):qd1 css (run++[b])=qcl css (qd1 css run) b:=by simp[qd1]
theorem qy9(m:Int)(run:List UInt8)(h:qb8 m=true):decide (qd1 (qbe m) (kept m run)=1)=decide (qd1 (qbe m) run=1):=by
 unfold kept;rw[if_pos h];by_cases q:qd1 (qbe m) run=0
 ·rw[if_pos q,q];rfl
 ·rw[if_neg q]
theorem quu:∀m:Nat,m<=33->qa3.getD m false=qb8 (m:Int):=by decide
theorem qzd(m:Nat)(hm:m<=33)(h:qb8 (m:Int)=true):19<=m:=by
 have:∀m:Nat,m<=33->qb8 (m:Int)=true->19<=m:=by decide
 exact this m hm h
theorem q7y(s:St)(t:Nat)(b:UInt8)(h:t≠34):(s.led1 t b).mode=t/\(s.led1 t b).elem=s.elem/\(s.led1 t b).read=s.read/\(s.led1 t b).esc=s.esc/\(t=3\/t=5->(s.led1 t b).name=qc4 s.name b):=by
 unfold St.led1;by_cases c3:t=3
 ·rw[if_pos c3];exact⟨rfl,rfl,rfl,rfl,fun _=>rfl⟩
 rw[if_neg c3];by_cases c5:t=5
 ·rw[if_pos c5];exact⟨rfl,rfl,rfl,rfl,fun _=>rfl⟩
 rw[if_neg c5];have no:¬(t=3\/t=5):=by omega
 by_cases c4:t=4\/t=10
 ·rw[if_pos c4];exact⟨rfl,rfl,rfl,rfl,fun q=>absurd q no⟩
 rw[if_neg c4,if_neg h];exact⟨rfl,rfl,rfl,rfl,fun q=>absurd q no⟩
theorem q6k(s:St)(t:Nat)(b:UInt8)(h:t≠34):(s.led t b).mode=t/\(s.led t b).elem=(if t≠s.mode/\s.mode=3 then qax s.name else s.elem)/\(s.led t b).read=s.read/\(s.led t b).esc=s.esc/\(t=3\/t=5->(s.led t b).name=qc4 (if t=s.mode then s.name else[]) b):=by
 unfold St.led;by_cases q:t=s.mode
 ·rw[if_pos q,if_pos q,if_neg (fun z=>z.1 q)]
  exact q7y s t b h
 ·rw[if_neg q,if_neg q]
  obtain⟨a,c,d,e,f⟩:=q7y s.named t b h;refine⟨a,c.trans ?_,d,e,f⟩;unfold St.named;by_cases w:s.mode=3
  ·have:t≠s.mode/\s.mode=3:=⟨q,w⟩
   rw[if_pos this,if_pos w]
  ·have:¬(t≠s.mode/\s.mode=3):=fun z=>w z.2
   rw[if_neg this,if_neg w]
theorem qsq(m:Nat)(n e:List UInt8)(k:Int)(rd:Nat)(p:Sp)(b:UInt8)(hs:(St.mk m n e k rd false).Ok)(hp:Par (St.mk m n e k rd false) p)(r t:Nat)(PR:List UInt8)(PF:Int)
  (Hf:r=m->PR=p.run) (hb:qb8 (m:Int)=true->b≠92)
  (Ha:qnf m b=true) (hr:qbw m b=r) (ht:qde m b=t)
  (hT:tgt r b=t\/(tgt r b=-1/\t=34/\r=m)) :
  Par ((St.mk r n e k rd false).led t b) ((Sp.mk r p.tag p.attr p.inside PR PF).step1 r b):=by
 unfold qnf at Ha;simp only[Bool.and_eq_true,decide_eq_true_eq,Bool.or_eq_true]at Ha;rw[hr,ht]at Ha;obtain⟨⟨⟨⟨⟨⟨⟨⟨⟨⟨r1,r2⟩,t1⟩,t2⟩,hf⟩,hg⟩,Hg⟩,h3⟩,h5⟩,h4⟩,Hj⟩:=Ha;have g1:=hs.name;have g2:=hs.named;have g3:=hs.bare;have g4:=hs.low;have ghi:=hs.hi;have e3:=hp.tagName;have e5:=hp.attrName;have e4:=hp.inTag;have e19:=hp.tag;have erd:=hp.read;have ees:=hp.esc;simp only at g1 g2 g3 g4 ghi e3 e5 e4 e19 erd ees;have hk:(m<19↔(t<19\/t=34))/\(m<19↔r<19):=by
  by_cases hm:m<19
  ·rw[if_pos hm]at hf
   simp only[Bool.and_eq_true,Bool.or_eq_true,decide_eq_true_eq]at hf;omega
  ·rw[if_neg hm]at hf
   simp only[Bool.and_eq_true,decide_eq_true_eq]at hf;omega
 clear hf;unfold Sp.step1;simp only;rcases hT with hT|⟨hT,hc,Hc⟩
 ·have c34:t≠34:=by
   intro c34;have:=qog r b r2;rw[hT]at this;subst c34;rcases this with q|q|⟨k,q,q'⟩<;>omega
  rw[hT,if_neg (by omega)];obtain⟨fm,fe,fr,fx,fn⟩:=q6k (St.mk r n e k rd false) t b c34;simp only at fe fr fx fn;generalize (St.mk r n e k rd false).led t b=S at fm fe fr fx fn;have he:t=3\/t=5\/t=4\/(6<=t/\t<=10)->r=m:=by
   intro q;rcases hg with z|z
   ·rcases z with z|z
    ·exact z
    ·exfalso
     have:∀c∈(0::named:List UInt8),tgt 1 c=1\/tgt 1 c=2:=by decide
     have h1:=this _ (qky b);rw[<-ql0 1 (by omega) b]at h1;rw[z.2]at hT;omega
   ·omega
  refine⟨?_,fun q=>?_,fun q=>?_,fun q q'=>?_,fun q=>?_,fun q=>?_,fun q=>?_⟩
  ·rw[fm]
  ·rw[fm]at q
   have ha:=he (.inl q);rw[if_pos q]at h3;simp only[Bool.or_eq_true,decide_eq_true_eq]at h3;rw[fn (.inl q)];show(Sp.named ⟨(r:Int),p.tag,p.attr,p.inside,PR,PF⟩ r b t).tag=_;unfold Sp.named;rw[if_neg (by omega),if_pos (by omega)];show(if r=2 then[qcr b]else qfp (p.tag++[qcr b]))=qc4 (if t=r then n else[]) b;rcases h3 with z|z
   ·rw[if_pos (by omega),if_neg (by omega)];rfl
   ·rw[if_neg (by omega),if_pos (by omega)]
    rw[e3 z,qlq _ _ g1]
  ·rw[fm]at q
   have ha:=he (.inr (.inl q));rw[fn (.inr q)];show(Sp.named ⟨(r:Int),p.tag,p.attr,p.inside,PR,PF⟩ r b t).attr=_;unfold Sp.named;rw[if_neg (by omega),if_neg (by omega),if_pos (by omega)];show(if r=5 then qfp (p.attr++[qcr b])else[qcr b])=qc4 (if t=r then n else[]) b;by_cases z:r=5
   ·rw[if_pos z,if_pos (by omega)]
    rw[e5 (by omega),qlq _ _ g1]
   ·rw[if_neg z,if_neg (by omega)];rfl
  ·rw[fm]at q q'
   rw[fe];have ha:=he (by omega);have h4:3<=m/\m<=10:=by
    by_cases z:t=5
    ·rw[if_pos z]at h5
     simp only[Bool.or_eq_true,decide_eq_true_eq]at h5;omega
    ·rw[if_pos (by omega)]at h4
     simpa only [Bool.and_eq_true,decide_eq_true_eq]using h4
   have He:(Sp.named ⟨(r:Int),p.tag,p.attr,p.inside,PR,PF⟩ r b t).tag=p.tag:=by
    unfold Sp.named;rw[if_neg (by omega),if_neg (by omega)];split
    ·rfl
    ·split
     ·rfl
     ·rw[if_pos (by omega)]
   rw[He];by_cases z:r=3
   ·have y:t≠r/\r=3:=⟨by omega,z⟩
    rw[if_pos y,e3 (by omega)]
   ·have y:¬(t≠r/\r=3):=fun y=>z y.2
    rw[if_neg y];exact e4 (by omega) (by omega)
  ·rw[fm]at q
   have z:¬(t≠r/\r=3):=by omega
   rw[fe,if_neg z];show(Sp.named ⟨(r:Int),p.tag,p.attr,p.inside,PR,PF⟩ r b t).tag=_;unfold Sp.named;rw[if_pos (by omega)];exact e19 (by omega)
  ·rw[fm]at q
   rw[fr];show qbp (Sp.named ⟨(r:Int),p.tag,p.attr,p.inside,PR,PF⟩ r b t).inside (qcm (Sp.named ⟨(r:Int),p.tag,p.attr,p.inside,PR,PF⟩ r b t).tag) (qcm (Sp.named ⟨(r:Int),p.tag,p.attr,p.inside,PR,PF⟩ r b t).tag).length=_;unfold Sp.named;rw[if_pos (by omega)];exact erd (by omega)
  ·rw[fm]at q
   rw[fx,fm];show _=decide (qd1 (qbe t) (if _ then _ else _)=1);by_cases c:(t:Int)=r/\runs t=true
   ·rw[if_pos c,qy9 _ _ q,qgs]
    have Hb:t=r:=by omega
    have ha:r=m:=by
     by_cases y:r=m
     ·exact y
     ·exfalso
      have Hi:r=qg6 m:=by
       unfold qbw at hr;split at hr
       ·exact hr.symm
       ·exact absurd hr.symm y
      have:∀m:Nat,m<=33->qb8 (qg6 m:Nat)=false:=by decide
      rw[Hb,Hi,this m ghi]at q;cases q
    have hj:=ees (by rw[<-ha,<-Hb];exact q);rw[eq_comm,decide_eq_false_iff_not];refine qxy _ _ _ ?_ (hb (by rw[<-ha,<-Hb];exact q));rw[Hf ha,Hb,ha];simpa using hj.symm
   ·rw[if_neg c]
    rfl
 ·subst hc Hc
  rw[hT,if_pos rfl];have hm:=Hg;simp only[if_true,Bool.and_eq_true,decide_eq_true_eq]at hm;have hl:(St.mk r n e k rd false).led 34 b=qcg (if r=3 then qax n else e):=by
   unfold St.led;have z:¬ 34=(St.mk r n e k rd false).mode:=by show ¬ 34=r;omega
   rw[if_neg z];rfl
  rw[hl];refine qz3 _ _ ?_;split
  ·next c=>rw[e3 c]
  ·next c=>exact e4 (by omega) (by omega)
theorem qok(m:Nat)(n e:List UInt8)(k:Int)(rd:Nat)(p:Sp)(b:UInt8)(hs:(St.mk m n e k rd false).Ok)(hp:Par (St.mk m n e k rd false) p)(PR:List UInt8)(PF:Int)(PM:Int)(hM:PM=m)(Hb:PR=p.run)(hb:qb8 (m:Int)=true->b≠92) :
  Par ((St.mk m n e k rd false).table b) ((Sp.mk PM p.tag p.attr p.inside PR PF).step m b):=by
 subst hM;rw[qno];have h1:=hs.lo;have h2:=hs.hi;simp only at h1 h2;have ha:=qlw m h1 h2 b;have Ha:=qon m h1 h2 b;unfold qtl at ha;unfold Sp.step;by_cases c2:tgt m b=-2
 ·rw[if_pos c2]at ha |-
  simp only[Bool.and_eq_true,decide_eq_true_eq]at ha;obtain⟨⟨a1,a2⟩,a3⟩:=ha;have ne:qa8 m≠m:=by
   intro q;have:=qjk m b;rw[q]at this;exact this c2
  exact qsq m n e k rd p b hs hp (qa8 m) (qde m b) [] PF (fun q=>absurd q ne) hb Ha a1 rfl (.inl a2.symm) |> fun h=>by rw[a1];exact h
 ·rw[if_neg c2]at ha |-
  by_cases c1:tgt m b=-1
  ·rw[if_pos c1]at ha
   simp only[Bool.and_eq_true,decide_eq_true_eq]at ha;rw[ha.1.1.1];exact qsq m n e k rd p b hs hp m (qde m b) PR PF (fun _=>Hb) hb Ha ha.1.1.1 rfl (.inr ⟨c1,ha.1.1.2,rfl⟩)
  ·rw[if_neg c1]at ha
   simp only[Bool.and_eq_true,decide_eq_true_eq]at ha;rw[ha.1];exact qsq m n e k rd p b hs hp m (qde m b) PR PF (fun _=>Hb) hb Ha ha.1 rfl (.inl ha.2.symm)
theorem qrj(m:Nat)(hm:m<=33)(h:qb8 (m:Int)=true):tgt m 92=m:=by
 have:∀m:Nat,m<=33->qb8 (m:Int)=true->tgt m 92=m:=by decide
 exact this m hm h
theorem q6c(s:St)(p:Sp)(b:UInt8)(hs:s.Ok)(hp:Par s p):Par (s.behind b) (p.next b):=by
 obtain⟨m,n,e,k,rd,x⟩:=s;have h1:=hs.lo;have h2:=hs.hi;have hb:=hs.calm;have Hb:=hp.mode;simp only at h1 h2 hb Hb;unfold Sp.next;rw[Hb,Int.toNat_natCast];by_cases hm:19<=m
 ·rw[if_pos hm]
  have hg:=hp.tag hm;have Hg:=hp.read hm;simp only at hg Hg;have Ha:∀PR PF,(Sp.mk m p.tag p.attr (qcb (p.inside++[b])) PR PF).read=(St.mk m n e k rd x).readEnd b:=by
   intro PR PF;show qbp (qcb (p.inside++[b])) (qcm p.tag) (qcm p.tag).length=_;rw[hg,qor _ _ _ hs.elem];have hr:qbp p.inside (qcm e) (qcm e).length=rd:=by
    have:p.read=qbp p.inside (qcm e) (qcm e).length:=by unfold Sp.read;rw[hg]
    rw[<-this];exact Hg
   rw[hr];rfl
  have Hi:(St.mk m n e k ((St.mk m n e k rd x).readEnd b) x).Ok:=
   ⟨h1,h2,hs.name,hs.named,hs.elem,hs.bare,fun hh=>by simp only at hh;omega,hs.calm,qjs _ b,hs.wrap,hs.high⟩
  have He:∀PF,Par (St.mk m n e k ((St.mk m n e k rd x).readEnd b) x) (Sp.mk m p.tag p.attr (qcb (p.inside++[b])) p.run PF):=fun PF=>
   ⟨rfl,hp.tagName,hp.attrName,hp.inTag,hp.tag,fun _=>Ha _ _,hp.esc⟩
  unfold Sp.element St.behind;rw[if_pos hm];have hc:(St.mk m n e k rd x).ends b=true↔(p.read=(qcm p.tag).length/\among b qdl=true):=by
   unfold St.ends;rw[Bool.and_eq_true,decide_eq_true_eq,Hg,hg];rfl
  by_cases ce:p.read=(qcm p.tag).length/\among b qdl=true
  ·rw[if_pos ce,if_pos (hc.2 ce)]
   unfold qc0;by_cases c62:b=62
   ·rw[if_pos c62,if_pos c62];exact qox
   ·rw[if_neg c62,if_neg c62]
    refine⟨rfl,fun h=>(by simp at h),fun h=>(by simp at h),fun h h'=>(by simp at h'),fun h=>(by simp at h),fun h=>(by simp at h),fun h=>(by revert h;decide)⟩
  ·rw[if_neg ce,if_neg (fun h=>ce (hc.1 h))]
   have hf:=quu m h2;generalize hj:(St.mk m n e k rd x).readEnd b=rd' at *;show Par ((St.mk m n e k rd' x).quiet b) _;unfold St.quiet;simp only;rw[hf];by_cases cs:qb8 (m:Int)=true
   ·have Hc:=hp.esc cs
    simp only at Hc;by_cases c1:qd1 (qbe m) p.run=1
    ·have w:qb8 (m:Int)=true/\qd1 (qbe m) p.run=1:=⟨cs,c1⟩
     rw[if_pos w];have hx:x=true:=by rw[Hc,c1];rfl
     subst hx;rw[cs];show Par (St.mk m n e k rd' false) _;refine⟨rfl,hp.tagName,hp.attrName,hp.inTag,hp.tag,fun _=>Ha _ _,fun _=>?_⟩;show false=_;rw[eq_comm,decide_eq_false_iff_not,qgs,c1];exact qs2 _ _
    ·have w:¬(qb8 (m:Int)=true/\qd1 (qbe m) p.run=1):=fun h=>c1 h.2
     have w19:¬m=19:=by intro h;subst h;revert cs;decide
     rw[if_neg w,if_neg w19];have hx:x=false:=by rw[Hc];exact decide_eq_false c1
     subst hx;by_cases cb:b=92
     ·subst cb
      rw[cs];show Par (St.mk m n e k rd' true) _;unfold Sp.step Sp.step1;rw[qrj m h2 cs,if_neg (by omega),if_neg (by omega)];have Hj:Sp.named ⟨(m:Int),p.tag,p.attr,qcb (p.inside++[92]),p.run,p.far⟩ m 92 (m:Int)=⟨0,p.tag,[],qcb (p.inside++[92]),[],0⟩:=by
       unfold Sp.named;rw[if_pos (by omega)]
      rw[Hj];have Hf:(m:Int)=(m:Int)/\runs (m:Int)=true:=⟨rfl,by unfold runs;rw[cs];simp⟩;rw[if_pos Hf];refine⟨rfl,fun q=>?_,fun q=>?_,fun q q'=>?_,hp.tag,fun _=>Ha [] 0,fun _=>?_⟩
      ·simp only at q;omega
      ·simp only at q;omega
      ·simp only at q';omega
      ·show true=_
       rw[qy9 _ _ cs,qgs,qna _ _ c1];rfl
     ·have w2:¬(qb8 (m:Int) && (false || b==92))=true:=by rw[cs];simpa using cb
      rw[if_neg w2];exact qok m n e k rd' ⟨m,p.tag,p.attr,qcb (p.inside++[b]),p.run,p.far⟩ b Hi (He _) _ _ _ rfl rfl (fun _=>cb)
   ·have cs':=Bool.eq_false_iff.2 cs
    have w:¬(qb8 (m:Int)=true/\qd1 (qbe m) p.run=1):=fun h=>cs h.1;have w2:¬(qb8 (m:Int) && (x || b==92))=true:=by rw[cs'];simp
    rw[if_neg w,if_neg w2];have hx:x=false:=hb (by rw[hf];exact cs');subst hx;by_cases w19:m=19
    ·subst w19
     rw[if_pos rfl];have ha:=qlw 19 (by omega) (by omega) b;have ht:tgt 19 b=19:=rfl;unfold qtl at ha;rw[ht,if_neg (by omega),if_neg (by omega)]at ha;simp only[Bool.and_eq_true,decide_eq_true_eq]at ha;rw[qno];show Par ((St.mk (qbw 19 b) n e k rd' false).led (qde 19 b) b) _;rw[ha.1,show qde 19 b=19 by omega];exact⟨rfl,hp.tagName,hp.attrName,hp.inTag,hp.tag,fun _=>Ha [] 0,fun h=>by replace h:qb8 19=true:=h;cases h⟩
    ·rw[if_neg w19]
     exact qok m n e k rd' ⟨m,p.tag,p.attr,qcb (p.inside++[b]),p.run,p.far⟩ b Hi (He _) _ _ _ rfl rfl (fun h=>absurd h cs)
 ·rw[if_neg hm]
  unfold St.behind;rw[if_neg hm];unfold St.quiet;have he:qa3.getD m false=false:=q4m m (by omega);have hx:x=false:=hb he;subst hx;have w2:¬(qa3.getD m false && (false || b==92))=true:=by rw[he];simp
  show Par (if(qa3.getD m false && (false || b==92))=true then _ else _) _;rw[if_neg w2];exact qok m n e k rd p b hs hp p.run p.far p.mode Hb rfl (fun h=>by have:=qzd m h2 h;omega)
def qda(p:Sp)(l:List UInt8):Sp:=l.foldl Sp.next p
def St.nowRead(s:St)(b:UInt8):Nat:=if 19<=s.mode then s.readEnd b else s.read
theorem qzy(x:Sx)(b:UInt8)(hm:19<=x.st.mode)(he:x.st.ends b=true):x.behind b=⟨⟨qc0 b,[],[],0,0,false⟩,Mk.none⟩:=by
 have h1:x.st.behind b=⟨qc0 b,[],[],0,0,false⟩:=by unfold St.behind;rw[if_pos hm,if_pos he]
 have h2:qey x.st x.ma b=Mk.none:=by unfold qey;rw[if_pos ⟨hm,he⟩]
 show Sx.mk (x.st.behind b) (qey x.st x.ma b)=_;rw[h1,h2]
theorem qzx(x:Sx)(b:UInt8)(he:¬(19<=x.st.mode/\x.st.ends b=true)):x.behind b=⟨(St.mk x.st.mode x.st.name x.st.elem x.st.kind (x.st.nowRead b) x.st.esc).quiet b,qko x.st x.ma b⟩:=by
 have h1:x.st.behind b=(St.mk x.st.mode x.st.name x.st.elem x.st.kind (x.st.nowRead b) x.st.esc).quiet b:=by
  unfold St.behind St.nowRead;by_cases hm:19<=x.st.mode
  ·rw[if_pos hm,if_pos hm,if_neg (fun q=>he ⟨hm,q⟩)]
  ·rw[if_neg hm,if_neg hm]
 have h2:qey x.st x.ma b=qko x.st x.ma b:=by unfold qey;rw[if_neg he]
 show Sx.mk (x.st.behind b) (qey x.st x.ma b)=_;rw[h1,h2]
theorem qvs(x:Sx)(b:UInt8)(he:¬(19<=x.st.mode/\x.st.ends b=true))(hq:(qa3.getD x.st.mode false && (x.st.esc || b==92))=true) :
  x.behind b=⟨⟨x.st.mode,x.st.name,x.st.elem,x.st.kind,x.st.nowRead b,!x.st.esc⟩,qa7 x.st.mode x.st.esc b⟩:=by
 rw[qzx x b he];unfold St.quiet qko;simp only;rw[hq,if_pos rfl,if_pos rfl]
theorem qpo(x:Sx)(b:UInt8)(r t:Nat)(he:¬(19<=x.st.mode/\x.st.ends b=true))(hq:(qa3.getD x.st.mode false && (x.st.esc || b==92))=false)(hr:qbw x.st.mode b=r)(ht:qde x.st.mode b=t) :
  x.behind b=Sx.led ⟨⟨r,x.st.name,x.st.elem,x.st.kind,x.st.nowRead b,x.st.esc⟩,x.ma⟩ t b:=by
 rw[qzx x b he];unfold St.quiet qko;simp only;rw[hq,if_neg (by simp),if_neg (by simp),qno];simp only;rw[hr,ht];rfl
theorem at_a(m:Nat)(b:UInt8)(hT:¬qc3 m b=0):qbw m b=m/\qde m b=or3 (qc3 m b) (qes.getD m 0) m:=by
 have h:qbw m b=m:=by unfold qbw;rw[if_neg (fun q=>hT q.1)]
 unfold qde;rw[h];exact⟨rfl,rfl⟩
theorem at_b(m:Nat)(b:UInt8)(hT:qc3 m b=0)(hR:qed.getD m 0=0):qbw m b=m/\qde m b=or3 0 (qes.getD m 0) m:=by
 have h:qbw m b=m:=by unfold qbw;rw[if_neg (fun q=>q.2 hR)]
 unfold qde;rw[h,hT];exact⟨rfl,rfl⟩
theorem at_c(m R:Nat)(b:UInt8)(hT:qc3 m b=0)(hR:qed.getD m 0=R)(h0:R≠0):qbw m b=R/\qde m b=or3 (qc3 R b) (qes.getD R 0) R:=by
 have h:qbw m b=R:=by unfold qbw qg6;rw[if_pos ⟨hT,by rw[hR];exact h0⟩,hR]
 unfold qde;rw[h];exact⟨rfl,rfl⟩
structure MkOk(k:Mk):Prop where
 hex:0<=k.hex/\k.hex<=5
 pct:0<=k.pct/\k.pct<=2
theorem qi7:MkOk Mk.none:=⟨by decide,by decide⟩
theorem qzq(n:Int)(b:UInt8)(m:Int)(h:n<=m)(hm:0<=m):0<=qdt n b/\qdt n b<=m:=by
 unfold qdt;split
 ·next q=>omega
 ·omega
theorem qwr(kind:Int)(m:Nat)(k:Mk)(b:UInt8)(h:MkOk k):MkOk (qcd kind m k b):=by
 have h1:=h.hex;have h2:=h.pct;have f1:=qzq k.hex b 5 h1.2 (by omega);have f2:=qzq k.pct b 2 h2.2 (by omega);refine⟨f1,?_⟩;show 0<=(if _ then _ else _:Int)/\(if _ then _ else _:Int)<=2;split
 ·split
  ·omega
  ·exact f2
 ·omega
theorem qm9(m:Nat)(e:Bool)(b:UInt8):MkOk (qa7 m e b):=by
 unfold qa7;split
 ·exact qi7
 ·split
  ·next r hr=>
   have hm:=List.mem_of_find?_eq_some hr;have:∀r∈qe1,0<=r.2.2.2/\r.2.2.2<=5:=by decide
   exact⟨this r hm,by show(0:Int)<=0/\(0:Int)<=2;omega⟩
  ·exact qi7
theorem q6l(s:St)(k:Mk)(t:Nat)(b:UInt8)(h:MkOk k):MkOk (qlj s k t b):=by
 unfold qlj;split
 ·exact qwr _ _ _ _ h
 ·exact qi7
theorem qyh(s:St)(k:Mk)(b:UInt8)(h:MkOk k):MkOk (qey s k b):=by
 unfold qey;split
 ·exact qi7
 ·unfold qko
  split
  ·exact qm9 _ _ _
  ·exact q6l _ _ _ _ h
structure SxOk(x:Sx):Prop where
 st:x.st.Ok
 ma:MkOk x.ma
theorem qjp:SxOk Sx.start:=⟨q5v,qi7⟩
theorem qkh{x:Sx}(b:UInt8)(h:SxOk x):SxOk (x.behind b):=⟨qvt b h.st,qyh _ _ b h.ma⟩
theorem qty(l:List UInt8):∀x:Sx,SxOk x->SxOk (qav x l):=by
 induction l with
 |nil=>intro x h;exact h
 |cons b l ih=>intro x h;exact ih _ (qkh b h)
def pct1(b:UInt8):List UInt8->Int
 |[]=>0
 |c::_=>if c=37/\among b qa2=true then 1 else 0
def pctR:List UInt8->Int
 |[]=>0
 |b::l=>if b=37 then 2 else pct1 b l
theorem q54(l:List UInt8):pctR (37::l)=2:=rfl
theorem qxc{b:UInt8}(l:List UInt8)(h:b≠37):pctR (b::l)=pct1 b l:=if_neg h
def qha(run:List UInt8):Int:=pctR run.reverse
theorem qi3(b:UInt8)(l:List UInt8):refR (b::l)=(b==38 || (among b qdj && refR l)):=by
 have e:refR (b::l)=if b=38 then true else if among b qdj=true then refR l else false:=rfl;rw[e];by_cases h:b=38
 ·rw[if_pos h,beq_iff_eq.2 h];rfl
 ·rw[if_neg h,beq_eq_false_iff_ne.2 h,Bool.false_or]
  by_cases q:among b qdj=true
  ·rw[if_pos q,q,Bool.true_and]
  ·rw[if_neg q,Bool.eq_false_iff.2 q,Bool.false_and]
theorem q0t(l:List UInt8)(b:UInt8):qhv (l++[b])=(b==38 || (among b qdj && qhv l)):=by
 unfold qhv;rw[List.reverse_append];exact qi3 b _
theorem q6v(b:UInt8):quy b=among b qdj:=by
 have:∀n∈List.range 256,quy (UInt8.ofNat n)=among (UInt8.ofNat n) qdj:=by decide +kernel
 have:=this b.toNat (List.mem_range.2 b.toNat_lt)
 rwa [UInt8.ofNat_toNat]at this
theorem q02(b:UInt8)(l:List UInt8):pct1 b l=0\/pct1 b l=1:=by
 match l with
 |[]=>exact .inl rfl
 |c::t=>
   have e:pct1 b (c::t)=if c=37/\among b qa2=true then 1 else 0:=rfl;rw[e];split
   ·exact .inr rfl
   ·exact .inl rfl
theorem q00(l:List UInt8):pctR l=0\/pctR l=1\/(pctR l=2/\∃t,l=37::t):=by
 match l with
 |[]=>exact .inl rfl
 |b::l=>
   by_cases h:b=37
   ·subst h;exact .inr (.inr ⟨rfl,l,rfl⟩)
   ·rw[qxc l h]
    rcases q02 b l with q|q
    ·exact .inl q
    ·exact .inr (.inl q)
theorem q3l(b:UInt8)(l:List UInt8):pctR (b::l)=if b=37 then 2 else qdt (pctR l) b:=by
 by_cases h:b=37
 ·subst h;rfl
 ·rw[if_neg h,qxc l h]
  match l with
  |[]=>simp[qdt,pctR,pct1]
  |c::t=>
    by_cases hc:c=37
    ·subst hc
     rw[q54];have e:pct1 b (37::t)=if(37:UInt8)=37/\among b qa2=true then 1 else 0:=rfl;rw[e];unfold qdt;by_cases hb:among b qa2=true
     ·have h1:(37:UInt8)=37/\among b qa2=true:=⟨rfl,hb⟩
      have h2:(0:Int)<2/\among b hexB=true:=⟨by omega,hb⟩;rw[if_pos h1,if_pos h2];rfl
     ·have h1:¬((37:UInt8)=37/\among b qa2=true):=fun q=>hb q.2
      have h2:¬((0:Int)<2/\among b hexB=true):=fun q=>hb q.2;rw[if_neg h1,if_neg h2]
    ·have h1:pct1 b (c::t)=0:=if_neg (fun q=>hc q.1)
     rw[h1];rcases q00 (c::t)with q|q|⟨_,t',q⟩
     ·rw[q];unfold qdt;rw[if_neg (fun z=>absurd z.1 (by omega))]
     ·rw[q];unfold qdt;split<;>rfl
     ·simp only[List.cons.injEq]at q;exact absurd q.1 hc
theorem q01(l:List UInt8)(b:UInt8):qha (l++[b])=if b=37 then 2 else qdt (qha l) b:=by
 unfold qha;rw[List.reverse_append];exact q3l b _
theorem q8q:∀r:List UInt8,refR r=true->pctR r=0
 |[],h=>by cases h
 |b::l,h=>by
   rw[qi3]at h;have hb:b≠37:=by
    rintro rfl
    revert h
    have z:((37:UInt8)==38)=false:=by decide
    rw[z,show among 37 qdj=false by decide];simp
   rw[qxc l hb]
   match l,h with
   |[],_=>rfl
   |c::t,h=>
     refine if_neg ?_;rintro⟨rfl,q⟩;have ha:refR (37::t)=false:=by rw[qi3];rw[show((37:UInt8)==38)=false by decide,show among 37 qdj=false by decide];rfl
     rw[ha,Bool.and_false,Bool.or_false,beq_iff_eq]at h;subst h
     revert q;decide
theorem q2t(r:List UInt8)(h:refR r=false):refR (r.take 2)=false:=by
 match r,h with
 |[],_=>rfl
 |[b],h=>exact h
 |b::c::t,h=>
   show refR [b,c]=false;rw[qi3,qi3]at h |-;cases hb:(b==38)
   ·rw[hb]at h
    cases ha:among b qdj
    ·rfl
    ·rw[ha]at h
     cases hc:(c==38)
     ·rw[show refR []=false from rfl,Bool.and_false];rfl
     ·rw[hc]at h;cases h
   ·rw[hb]at h;cases h
theorem q2u(r:List UInt8):pctR (r.take 2)=pctR r:=by
 match r with
 |[]=>rfl
 |[b]=>rfl
 |b::c::t=>rfl
theorem qzt(l:List UInt8):(l.drop (l.length - 2)).reverse=l.reverse.take 2:=by
 rw[List.reverse_drop];by_cases h:2<=l.length
 ·congr 1;omega
 ·rw[show l.length - (l.length - 2)=l.length by omega,List.take_of_length_le (by simp),List.take_of_length_le (by simp;omega)]
theorem q6p(m:Int)(l:List UInt8)(hm:qb8 m=false):qhv (kept m l)=qhv l:=by
 unfold kept;rw[if_neg (by rw[hm];simp)];by_cases h:qhv l=true
 ·rw[if_pos h,h];rfl
 ·rw[if_neg h]
  have h':=Bool.eq_false_iff.2 h;split
  ·rw[h'];rfl
  ·split
   ·unfold qhv
    rw[qzt,q2t _ h'];exact h'.symm
   ·rfl
theorem q6q(m:Int)(l:List UInt8)(hm:qb8 m=false)(h1:¬(m=1\/m=19)):qha (kept m l)=qha l:=by
 unfold kept;rw[if_neg (by rw[hm];simp)];by_cases h:qhv l=true
 ·rw[if_pos h]
  exact(show qha [38]=0 from rfl).trans (q8q _ h).symm
 ·rw[if_neg h,if_neg h1]
  split
  ·unfold qha
   rw[qzt,q2u]
  ·rfl
theorem qzb(m:Int)(l:List UInt8)(hm:qb8 m=true):qd1 (qbe m) (kept m l)=qd1 (qbe m) l:=by
 unfold kept;rw[if_pos hm];split
 ·next h=>rw[h];rfl
 ·rfl
def qjd(f:Int):Int:=if f=0 then 2 else if f=1 then 3 else if f=2 then 4 else 1
structure MkPar(kind:Int)(m:Nat)(k:Mk)(esc:Bool)(run:List UInt8)(far:Int):Prop where
 ref:k.ref=(decide (qat m=1) && qhv run)
 hex:0<=k.hex
 str:qb8 m=true->(if esc=true then(1:Int)else if k.hex=0 then 0 else k.hex+1)=qd1 (qbe m) run
 nostr:qb8 m=false->esc=false/\k.hex=0
 link:qba kind m=true->k.pct=qha run/\qjd k.far=far/\0<=k.far/\k.far<=3
 nolink:qba kind m=false->k.pct=0/\k.far=0
theorem qdf{kind:Int}{m:Nat}(h:qba kind m=true):(m=8\/m=9)/\kind=1:=by
 unfold qba at h;rw[Bool.and_eq_true,Bool.or_eq_true,beq_iff_eq,beq_iff_eq,beq_iff_eq]at h;exact⟨h.2,h.1⟩
theorem qf1:∀m:Nat,m<=33->qb8 (m:Int)=true->qat m≠1/\m≠8/\m≠9/\m≠1/\m≠19:=by
 have:∀m:Nat,m<=33->qb8 (m:Int)=true->qat m≠1/\m≠8/\m≠9/\m≠1/\m≠19:=by decide
 exact this
theorem qz9:∀m:Nat,m<=33->qat m=1->m=1\/m=8\/m=9\/m=19:=by decide
theorem q3r(kind:Int)(m:Nat):MkPar kind m Mk.none false [] (if m=8\/m=9 then 2 else 0):=by
 refine⟨?_,by decide,fun _=>rfl,fun _=>⟨rfl,rfl⟩,fun h=>⟨rfl,?_,by decide,by decide⟩,fun _=>⟨rfl,rfl⟩⟩
 ·show false=_
  rw[show qhv []=false from rfl,Bool.and_false]
 ·rw[if_pos (qdf h).1];rfl
theorem qli(kind:Int)(m:Nat)(far:Int)(h:m≠8)(h':m≠9):MkPar kind m Mk.none false [] far:=by
 refine⟨?_,by decide,fun _=>rfl,fun _=>⟨rfl,rfl⟩,fun q=>?_,fun _=>⟨rfl,rfl⟩⟩
 ·show false=_
  rw[show qhv []=false from rfl,Bool.and_false]
 ·exfalso
  rcases(qdf q).1 with z|z
  ·exact h z
  ·exact h' z
theorem q60(kind:Int)(m:Nat)(f:Int)(b:UInt8)(hl:qba kind m=true)(ha:0<=f)(Ha:f<=3):qjd (qdu kind m f b)=qcq (qjd f) b/\0<=qdu kind m f b/\qdu kind m f b<=3:=by
 have hf:f=0\/f=1\/f=2\/f=3:=by omega
 unfold qdu qbv;rw[hl,Bool.true_and];have hd:among b qhg=(b==47 || (b==63 || (b==35 || b==58))):=by
  have:∀n∈List.range 256,among (UInt8.ofNat n) qhg=((UInt8.ofNat n)==47 || ((UInt8.ofNat n)==63 || ((UInt8.ofNat n)==35 || (UInt8.ofNat n)==58))):=by decide +kernel
  have:=this b.toNat (List.mem_range.2 b.toNat_lt)
  rwa [UInt8.ofNat_toNat]at this
 rw[hd];unfold qcq;cases h1:(b==47)<;>cases h2:(b==63)<;>cases h3:(b==35)<;>cases h4:(b==58)
 all_goals
  rcases hf with rfl|rfl|rfl|rfl
  all_goals first
   |(refine⟨?_,?_,?_⟩<;>decide)
   |(exfalso;first|exact absurd ((beq_iff_eq.1 h1).symm.trans (beq_iff_eq.1 h2)) (by decide)|exact absurd ((beq_iff_eq.1 h1).symm.trans (beq_iff_eq.1 h3)) (by decide)|exact absurd ((beq_iff_eq.1 h1).symm.trans (beq_iff_eq.1 h4)) (by decide)|exact absurd ((beq_iff_eq.1 h2).symm.trans (beq_iff_eq.1 h3)) (by decide)|exact absurd ((beq_iff_eq.1 h2).symm.trans (beq_iff_eq.1 h4)) (by decide)|exact absurd ((beq_iff_eq.1 h3).symm.trans (beq_iff_eq.1 h4)) (by decide))
theorem q4n(css:Bool)(h:Int)(b:UInt8)(h0:0<=h)(hb:b≠92):(if qdt h b=0 then(0:Int)else qdt h b+1)=qcl css (if h=0 then 0 else h+1) b:=by
 have hL:((if h=0 then 0 else h+1:Int)=0/\h=0)\/((if h=0 then 0 else h+1:Int)=h+1/\1<=h):=by
  by_cases hz:h=0
  ·left;exact⟨if_pos hz,hz⟩
  ·right;exact⟨if_neg hz,by omega⟩
 generalize (if h=0 then 0 else h+1:Int)=L at hL;unfold qcl qdt;have ha:among b hexB=among b qa2:=rfl;rw[ha];have h1:¬L=1:=by omega
 rw[if_neg h1];by_cases hx:among b qa2=true
 ·rcases hL with⟨q,z⟩|⟨q,z⟩
  ·have c1:¬(0<h/\among b qa2=true):=fun q=>by omega
   have c2:¬(1<L/\among b qa2=true):=fun q=>by omega
   rw[if_neg c1,if_neg c2,if_neg hb];rfl
  ·have c1:0<h/\among b qa2=true:=⟨by omega,hx⟩
   have c2:1<L/\among b qa2=true:=⟨by omega,hx⟩;rw[if_pos c1,if_pos c2];by_cases y:h - 1=0
   ·rw[if_pos y,if_pos (by omega)]
   ·rw[if_neg y,if_neg (by omega)];omega
 ·have c1:¬(0<h/\among b qa2=true):=fun q=>hx q.2
  have c2:¬(1<L/\among b qa2=true):=fun q=>hx q.2;rw[if_neg c1,if_neg c2,if_neg hb];rfl
theorem qqz(kind:Int)(m:Nat)(hm:m<=33)(k:Mk)(run:List UInt8)(far:Int)(b:UInt8)(h:MkPar kind m k false run far)(hb:qb8 (m:Int)=true->b≠92)
  (run':List UInt8) (far':Int) (ha:(qb8 (m:Int)=true\/qat m=1)->run'=kept m (run++[b])) (Ha:m=8\/m=9->far'=qcq far b) :
  MkPar kind m (qcd kind m k b) false run' far':=by
 by_cases hs:qb8 (m:Int)=true
 ·obtain⟨n1,n8,n9,_,_⟩:=qf1 m hm hs
  have hl:qba kind m=false:=by
   rw[Bool.eq_false_iff];intro q;rcases(qdf q).1 with z|z
   ·exact n8 z
   ·exact n9 z
  have hc:=h.str hs;rw[if_neg (by simp)]at hc;have h0:=h.hex;refine⟨?_,?_,fun _=>?_,fun q=>?_,fun q=>?_,fun _=>⟨?_,?_⟩⟩
  ·unfold qcd;rw[if_neg n1,decide_eq_false n1,Bool.false_and]
  ·show 0<=qdt k.hex b
   unfold qdt;split
   ·next q=>omega
   ·omega
  ·rw[if_neg (by simp),ha (.inl hs),qzb _ _ hs,qgs,<-hc]
   exact q4n _ _ _ h0 (hb hs)
  ·rw[hs]at q;cases q
  ·rw[hl]at q;cases q
  ·unfold qcd;rw[hl];rfl
  ·unfold qcd;rw[hl];rfl
 ·have Hb:=Bool.eq_false_iff.2 hs
  obtain⟨_,Hc⟩:=h.nostr Hb;refine⟨?_,?_,fun q=>absurd q hs,fun _=>⟨rfl,?_⟩,fun hl=>?_,fun hl=>⟨?_,?_⟩⟩
  ·by_cases hw:qat m=1
   ·rw[decide_eq_true hw,Bool.true_and,ha (.inr hw),q6p _ _ Hb,q0t]
    unfold qcd;rw[if_pos hw,q6v,h.ref,decide_eq_true hw,Bool.true_and,Bool.and_comm]
   ·rw[decide_eq_false hw,Bool.false_and]
    unfold qcd;rw[if_neg hw]
  ·show 0<=qdt k.hex b
   rw[Hc];unfold qdt;rw[if_neg (fun q=>absurd q.1 (by omega))];omega
  ·show qdt k.hex b=0
   rw[Hc];unfold qdt;rw[if_neg (fun q=>absurd q.1 (by omega))]
  ·obtain⟨l1,l2,l3,l4⟩:=h.link hl
   have he:=(qdf hl).1;have hw:qat m=1:=by rcases he with rfl|rfl<;>rfl
   obtain⟨f1,f2,f3⟩:=q60 kind m k.far b hl l3 l4;have e1:(qcd kind m k b).pct=if b=37 then 2 else qdt k.pct b:=by unfold qcd;rw[hl];rfl
   have e2:(qcd kind m k b).far=qdu kind m k.far b:=by unfold qcd;rw[hl];rfl
   rw[e1,e2,ha (.inr hw),q6q _ _ Hb (by omega),q01,l1,Ha he,<-l2];exact⟨rfl,f1,f2,f3⟩
  ·unfold qcd;rw[hl];rfl
  ·unfold qcd;rw[hl];rfl
structure ParX(x:Sx)(p:Sp):Prop where
 par:Par x.st p
 kind:6<=x.st.mode->x.st.mode<=9->x.st.kind=qcx p.attr
 plain:¬(6<=x.st.mode/\x.st.mode<=9)->x.st.kind=0
 ma:MkPar x.st.kind x.st.mode x.ma x.st.esc p.run p.far
theorem quq(s:St)(t:Nat)(b:UInt8)(h:t≠34):(s.led1 t b).kind=if t=4\/t=5\/t=10 then 0 else s.kind:=by
 unfold St.led1;by_cases c3:t=3
 ·rw[if_pos c3,if_neg (by omega)]
 rw[if_neg c3];by_cases c5:t=5
 ·rw[if_pos c5,if_pos (by omega)]
 rw[if_neg c5];by_cases c4:t=4\/t=10
 ·rw[if_pos c4,if_pos (by omega)]
 rw[if_neg c4,if_neg h,if_neg (by omega)]
theorem qsr(s:St)(t:Nat)(b:UInt8)(h:t≠34):(s.led t b).kind=if t=4\/t=5\/t=10 then 0 else if t≠s.mode/\s.mode=5 then qcx s.name else s.kind:=by
 unfold St.led;by_cases q:t=s.mode
 ·have:¬(t≠s.mode/\s.mode=5):=fun z=>z.1 q
  rw[if_pos q,quq s t b h,if_neg this]
 ·rw[if_neg q,quq _ t b h]
  unfold St.named;by_cases w:s.mode=5
  ·have:t≠s.mode/\s.mode=5:=⟨q,w⟩
   rw[if_pos this,if_pos w]
  ·have:¬(t≠s.mode/\s.mode=5):=fun z=>w z.2
   rw[if_neg this,if_neg w]
theorem q08{kind kind':Int}{m:Nat}{k:Mk}{esc:Bool}{run:List UInt8}{far:Int}(h:MkPar kind m k esc run far)(h8:m≠8)(h9:m≠9):MkPar kind' m k esc run far:=by
 have no:∀z,qba z m=false:=fun z=>by
  rw[Bool.eq_false_iff];intro q;rcases(qdf q).1 with y|y
  ·exact h8 y
  ·exact h9 y
 exact⟨h.ref,h.hex,h.str,h.nostr,fun q=>(by rw[no]at q;cases q),fun _=>h.nolink (no _)⟩
def qvx(m:Nat)(c:UInt8):Bool:=if 6<=tgt m c/\tgt m c<=9 then decide (5<=m) && decide (m<=9)else true
theorem q11:((List.range 34).all fun m=>(0::named).all fun c=>qvx m c)=true:=by decide +kernel
theorem q13(m:Nat)(hm:m<=33)(b:UInt8)(h:6<=tgt m b/\tgt m b<=9):5<=m/\m<=9:=by
 have e:qvx m b=qvx m (cls b):=by unfold qvx;rw[ql0 m hm b]
 have:=List.all_eq_true.1 ((List.all_eq_true.1 q11) m (List.mem_range.2 (by omega))) _ (qky b);rw[<-e]at this;unfold qvx at this;rw[if_pos h]at this;simpa only [Bool.and_eq_true,decide_eq_true_eq]using this
theorem q8p(r:Nat)(hr:r<=33)(ha:r≠19)(h:qb8 (r:Int)=true\/qat r=1):runs (r:Int)=true:=by
 unfold runs;rcases h with h|h
 ·rw[h];simp
 ·rcases qz9 r hr h with rfl|rfl|rfl|rfl
  ·rfl
  ·rfl
  ·rfl
  ·exact absurd rfl ha
theorem qn6(n:List UInt8):(qcg n).kind=0/\(qcg n).esc=false/\(qcg n).mode≠8/\(qcg n).mode≠9/\¬(6<=(qcg n).mode/\(qcg n).mode<=9):=by
 unfold qcg qaw
 repeat' split
 all_goals refine⟨rfl,rfl,?_,?_,?_⟩<;>simp
theorem qsp(m:Nat)(n e:List UInt8)(k:Int)(rd:Nat)(K:Mk)(p:Sp)(b:UInt8)(hs:(St.mk m n e k rd false).Ok)(hx:ParX ⟨St.mk m n e k rd false,K⟩ p)(r t:Nat)(PR:List UInt8)(PF:Int)
  (hj:r=m->PR=p.run/\PF=p.far) (hk:r≠m->K=Mk.none/\PR=[]) (hb:qb8 (m:Int)=true->b≠92) (Hk:r≠19)
  (hc:qnf m b=true) (hr:qbw m b=r) (ht:qde m b=t)
  (hT:tgt r b=t\/(tgt r b=-1/\t=34/\r=m)) :
  ParX (Sx.led ⟨St.mk r n e k rd false,K⟩ t b) ((Sp.mk r p.tag p.attr p.inside PR PF).step1 r b):=by
 have Hc:=qsq m n e k rd p b hs hx.par r t PR PF (fun q=>(hj q).1) hb hc hr ht hT;unfold qnf at hc;simp only[Bool.and_eq_true,decide_eq_true_eq,Bool.or_eq_true]at hc;rw[hr,ht]at hc;obtain⟨⟨⟨⟨⟨⟨⟨⟨⟨⟨r1,r2⟩,t1⟩,t2⟩,hf⟩,Hl⟩,Ho⟩,h3⟩,h5⟩,h4⟩,Hj⟩:=hc;have ghi:=hs.hi;have gk:=hx.kind;have gp:=hx.plain;have gm:=hx.ma;have e5:=hx.par.attrName;simp only at ghi gk gp gm e5;have hp:(m<19↔(t<19\/t=34))/\(m<19↔r<19):=by
  by_cases hm:m<19
  ·rw[if_pos hm]at hf
   simp only[Bool.and_eq_true,Bool.or_eq_true,decide_eq_true_eq]at hf;omega
  ·rw[if_neg hm]at hf
   simp only[Bool.and_eq_true,decide_eq_true_eq]at hf;omega
 clear hf;have Hm:MkPar k r K false PR PF:=by
  by_cases q:r=m
  ·obtain⟨q1,q2⟩:=hj q
   rw[q1,q2,q];exact gm
  ·obtain⟨q1,q2⟩:=hk q
   rw[q1,q2];refine qli k r PF ?_ ?_<;>omega
 rcases hT with hT|⟨hT,Hf,hg⟩
 ·have c34:t≠34:=by
   intro c34;have:=qog r b r2;rw[hT]at this;subst c34;rcases this with q|q|⟨k,q,q'⟩<;>omega
  obtain⟨fm,_,_,fx,_⟩:=q6k (St.mk r n e k rd false) t b c34;have fk:=qsr (St.mk r n e k rd false) t b c34;simp only at fx fk;have hn:t=3\/t=5\/t=4\/(6<=t/\t<=10)->r=m:=by
   intro q;rcases Hl with z|z
   ·rcases z with z|z
    ·exact z
    ·exfalso
     have:∀c∈(0::named:List UInt8),tgt 1 c=1\/tgt 1 c=2:=by decide
     have h1:=this _ (qky b);rw[<-ql0 1 (by omega) b]at h1;rw[z.2]at hT;omega
   ·omega
  have Ha:((Sp.mk r p.tag p.attr p.inside PR PF).step1 r b)=⟨t,(Sp.named ⟨r,p.tag,p.attr,p.inside,PR,PF⟩ r b t).tag,(Sp.named ⟨r,p.tag,p.attr,p.inside,PR,PF⟩ r b t).attr,(Sp.named ⟨r,p.tag,p.attr,p.inside,PR,PF⟩ r b t).inside,
    (if(t:Int)=r/\runs t=true then kept t (PR++[b])else[]),(if(t:Int)=8\/(t:Int)=9 then(if(t:Int)=r then qcq PF b else 2)else 0)⟩:=by
   unfold Sp.step1;rw[hT,if_neg (by omega)]
  have Hg:(Sx.led ⟨St.mk r n e k rd false,K⟩ t b).ma=if t=r then qcd k r K b else Mk.none:=by
   show qlj _ _ _ _=_;unfold qlj;by_cases q:t=r
   ·rw[if_pos q,if_pos ⟨q,c34⟩]
   ·rw[if_neg q,if_neg (fun z=>q z.1)]
  have he:(Sx.led ⟨St.mk r n e k rd false,K⟩ t b).st=(St.mk r n e k rd false).led t b:=rfl;refine⟨Hc,fun q q'=>?_,fun q=>?_,?_⟩
  ·rw[he,fm]at q q'
   rw[he,fk,Ha];have Hn:=hn (by omega);have ha:=q13 r r2 b (by rw[hT];omega);have He:(Sp.named ⟨r,p.tag,p.attr,p.inside,PR,PF⟩ r b t).attr=p.attr:=by
    unfold Sp.named;rw[if_neg (by omega),if_neg (by omega),if_neg (by omega),if_pos (by omega)]
   show _=qcx (Sp.named ⟨r,p.tag,p.attr,p.inside,PR,PF⟩ r b t).attr;rw[He,if_neg (by omega)];by_cases z:r=5
   ·have y:t≠r/\r=5:=⟨by omega,z⟩
    rw[if_pos y,e5 (by omega)]
   ·have y:¬(t≠r/\r=5):=fun y=>z y.2
    rw[if_neg y];exact gk (by omega) (by omega)
  ·rw[he,fm]at q
   rw[he,fk];by_cases z:t=4\/t=5\/t=10
   ·rw[if_pos z]
   ·rw[if_neg z]
    have Hp:¬(4<=m/\m<=10):=by
     by_cases y:t=3
     ·rw[if_pos y]at h3
      simp only[Bool.or_eq_true,decide_eq_true_eq]at h3;omega
     ·by_cases y19:t<19
      ·rw[if_pos (by omega)]at Hj
       simp only[Bool.and_eq_true,Bool.or_eq_true,decide_eq_true_eq]at Hj;omega
      ·omega
    have y:¬(t≠r/\r=5):=by
     rintro⟨_,y⟩;have:r=m\/(m=2/\r=1)\/24<=m:=by omega
     omega
    rw[if_neg y];exact gp (by omega)
  ·rw[he,fm,fx,Hg,Ha]
   show MkPar _ t _ false (if(t:Int)=r/\runs t=true then kept t (PR++[b])else[]) (if(t:Int)=8\/(t:Int)=9 then(if(t:Int)=r then qcq PF b else 2)else 0);by_cases q:t=r
   ·subst q
    rw[if_pos rfl];have Hb:=qqz k t r2 K PR PF b Hm (fun q=>by
     by_cases z:t=m
     ·exact hb (by rw[<-z];exact q)
     ·exfalso
      have ho:t=qg6 m:=by
       unfold qbw at hr;split at hr
       ·exact hr.symm
       ·exact absurd hr.symm z
      have:∀m:Nat,m<=33->qb8 (qg6 m:Nat)=false:=by decide
      rw[ho,this m ghi]at q;cases q)
     (if(t:Int)=t/\runs t=true then kept t (PR++[b])else[]) (if(t:Int)=8\/(t:Int)=9 then(if(t:Int)=t then qcq PF b else 2)else 0)
     (fun z=>by rw[if_pos ⟨rfl,q8p t r2 Hk z⟩]) (fun z=>by rw[if_pos (by omega),if_pos rfl])
    by_cases z:t=4\/t=5\/t=10
    ·exact q08 Hb (by omega) (by omega)
    ·have y:¬(t≠t/\t=5):=fun y=>y.1 rfl
     rw[fk,if_neg z,if_neg y];exact Hb
   ·have q':¬(t:Int)=r:=by omega
    rw[if_neg q,if_neg (fun z=>q' z.1),if_neg q'];have:=q3r ((St.mk r n e k rd false).led t b).kind t;by_cases z:t=8\/t=9
    ·rw[if_pos z]at this
     rw[if_pos (by omega)];exact this
    ·rw[if_neg z]at this
     rw[if_neg (by omega)];exact this
 ·subst Hf hg
  have Hg:(Sx.led ⟨St.mk r n e k rd false,K⟩ 34 b).ma=Mk.none:=by
   show qlj _ _ _ _=_;unfold qlj;rw[if_neg (fun z=>z.2 rfl)]
  have hl:(Sx.led ⟨St.mk r n e k rd false,K⟩ 34 b).st=qcg (if r=3 then qax n else e):=by
   show(St.mk r n e k rd false).led 34 b=_;unfold St.led;have z:¬ 34=(St.mk r n e k rd false).mode:=by show ¬ 34=r;omega
   rw[if_neg z];rfl
  obtain⟨w1,w2,w3,w4,w5⟩:=qn6 (if r=3 then qax n else e);refine⟨Hc,fun q q'=>?_,fun _=>?_,?_⟩
  ·rw[hl]at q q'
   exact absurd ⟨q,q'⟩ w5
  ·rw[hl];exact w1
  ·rw[hl,Hg,w2]
   have Hi:((Sp.mk r p.tag p.attr p.inside PR PF).step1 r b).run=[]:=by
    unfold Sp.step1;rw[hT,if_pos rfl];split<;>rfl
   rw[Hi];exact qli _ _ _ w3 w4
end Go.Proofs.YtfkhljmiehdgmaaGreatDoor.Pl
