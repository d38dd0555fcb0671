/-
  Steps of the proof.
-/
import Derived.Test.YtfkhljmiehdgmaaGreatDoorCmAF
namespace Go.Proofs.YtfkhljmiehdgmaaGreatDoor.Pl
def pct1(b:UInt8):List UInt8→Int
 | []=>0
 | c::_=>if c=37∧among b qa2=true then 1 else 0
def pctR:List UInt8→Int
 | []=>0
 | b::l=>if b=37 then 2 else pct1 b l
theorem q5p(l:List UInt8):pctR (37::l)=2:=rfl
theorem qwy{b:UInt8}(l:List UInt8)(h:b≠37):pctR (b::l)=pct1 b l:=if_neg h
def qg8(run:List UInt8):Int:=pctR run.reverse
theorem qi0(b:UInt8)(l:List UInt8):refR (b::l)=(b==38 || (among b qdg && refR l)):=by
 have e:refR (b::l)=if b=38 then true else if among b qdg=true then refR l else false:=rfl;rw[e];by_cases h:b=38
 ·rw[if_pos h,beq_iff_eq.2 h];rfl
 ·rw[if_neg h,beq_eq_false_iff_ne.2 h,Bool.false_or]
  by_cases q:among b qdg=true
  ·rw[if_pos q,q,Bool.true_and]
  ·rw[if_neg q,Bool.eq_false_iff.2 q,Bool.false_and]
theorem q0f(l:List UInt8)(b:UInt8):qht (l++[b])=(b==38 || (among b qdg && qht l)):=by
 unfold qht;rw[List.reverse_append];exact qi0 b _
theorem q6f(b:UInt8):quk b=among b qdg:=by
 have:∀n∈List.range 256,quk (UInt8.ofNat n)=among (UInt8.ofNat n) qdg:=by decide +kernel
 have:=this b.toNat (List.mem_range.2 b.toNat_lt)
 rwa [UInt8.ofNat_toNat]at this
theorem q0o(b:UInt8)(l:List UInt8):pct1 b l=0∨pct1 b l=1:=by
 match l with
 | []=>exact .inl rfl
 | c::t=>
   have e:pct1 b (c::t)=if c=37∧among b qa2=true then 1 else 0:=rfl;rw[e];split
   ·exact .inr rfl
   ·exact .inl rfl
theorem q0m(l:List UInt8):pctR l=0∨pctR l=1∨(pctR l=2∧∃t,l=37::t):=by
 match l with
 | []=>exact .inl rfl
 | b::l=>
   by_cases h:b=37
   ·subst h;exact .inr (.inr ⟨rfl,l,rfl⟩)
   ·rw[qwy l h]
    rcases q0o b l with q | q
    ·exact .inl q
    ·exact .inr (.inl q)
theorem q26(b:UInt8)(l:List UInt8):pctR (b::l)=if b=37 then 2 else qdq (pctR l) b:=by
 by_cases h:b=37
 ·subst h;rfl
 ·rw[if_neg h,qwy l h]
  match l with
  | []=>simp[qdq,pctR,pct1]
  | c::t=>
    by_cases hc:c=37
    ·subst hc
     rw[q5p];have e:pct1 b (37::t)=if(37:UInt8)=37∧among b qa2=true then 1 else 0:=rfl;rw[e];unfold qdq;by_cases hb:among b qa2=true
     ·have h1:(37:UInt8)=37∧among b qa2=true:=⟨rfl,hb⟩
      have h2:(0:Int)<2∧among b hexB=true:=⟨by omega,hb⟩;rw[if_pos h1,if_pos h2];rfl
     ·have h1:¬((37:UInt8)=37∧among b qa2=true):=fun q=>hb q.2
      have h2:¬((0:Int)<2∧among b hexB=true):=fun q=>hb q.2;rw[if_neg h1,if_neg h2]
    ·have h1:pct1 b (c::t)=0:=if_neg (fun q=>hc q.1)
     rw[h1];rcases q0m (c::t)with q | q | ⟨_,t',q⟩
     ·rw[q];unfold qdq;rw[if_neg (fun z=>absurd z.1 (by omega))]
     ·rw[q];unfold qdq;split<;>rfl
     ·simp only[List.cons.injEq]at q;exact absurd q.1 hc
theorem q0n(l:List UInt8)(b:UInt8):qg8 (l++[b])=if b=37 then 2 else qdq (qg8 l) b:=by
 unfold qg8;rw[List.reverse_append];exact q26 b _
theorem q79:∀r:List UInt8,refR r=true→pctR r=0
 | [],h=>by cases h
 | b::l,h=>by
   rw[qi0]at h;have hb:b≠37:=by
    rintro rfl
    revert h
    have z:((37:UInt8)==38)=false:=by decide
    rw[z,show among 37 qdg=false by decide];simp
   rw[qwy l hb]
   match l,h with
   | [],_=>rfl
   | c::t,h=>
     refine if_neg ?_;rintro⟨rfl,q⟩;have ha:refR (37::t)=false:=by rw[qi0];rw[show ((37:UInt8)==38)=false by decide,show among 37 qdg=false by decide];rfl
     rw[ha,Bool.and_false,Bool.or_false,beq_iff_eq]at h;subst h
     revert q;decide
theorem q2f(r:List UInt8)(h:refR r=false):refR (r.take 2)=false:=by
 match r,h with
 | [],_=>rfl
 | [b],h=>exact h
 | b::c::t,h=>
   show refR [b,c]=false;rw[qi0,qi0]at h ⊢;cases hb:(b==38)
   ·rw[hb]at h
    cases ha:among b qdg
    ·rfl
    ·rw[ha]at h
     cases hc:(c==38)
     ·rw[show refR []=false from rfl,Bool.and_false];rfl
     ·rw[hc]at h;cases h
   ·rw[hb]at h;cases h
theorem q2g(r:List UInt8):pctR (r.take 2)=pctR r:=by
 match r with
 | []=>rfl
 | [b]=>rfl
 | b::c::t=>rfl
theorem qzg(l:List UInt8):(l.drop (l.length - 2)).reverse=l.reverse.take 2:=by
 rw[List.reverse_drop];by_cases h:2≤l.length
 ·congr 1;omega
 ·rw[show l.length - (l.length - 2)=l.length by omega,List.take_of_length_le (by simp),List.take_of_length_le (by simp;omega)]
theorem q59(m:Int)(l:List UInt8)(hm:qb7 m=false):qht (kept m l)=qht l:=by
 unfold kept;rw[if_neg (by rw[hm];simp)];by_cases h:qht l=true
 ·rw[if_pos h,h];rfl
 ·rw[if_neg h]
  have h':=Bool.eq_false_iff.2 h;split
  ·rw[h'];rfl
  ·split
   ·unfold qht
    rw[qzg,q2f _ h'];exact h'.symm
   ·rfl
theorem q6a(m:Int)(l:List UInt8)(hm:qb7 m=false)(h1:¬(m=1∨m=19)):qg8 (kept m l)=qg8 l:=by
 unfold kept;rw[if_neg (by rw[hm];simp)];by_cases h:qht l=true
 ·rw[if_pos h]
  exact(show qg8 [38]=0 from rfl).trans (q79 _ h).symm
 ·rw[if_neg h,if_neg h1]
  split
  ·unfold qg8
   rw[qzg,q2g]
  ·rfl
theorem qyy(m:Int)(l:List UInt8)(hm:qb7 m=true):qdy (qbe m) (kept m l)=qdy (qbe m) l:=by
 unfold kept;rw[if_pos hm];split
 ·next h=>rw[h];rfl
 ·rfl
def qja(f:Int):Int:=if f=0 then 2 else if f=1 then 3 else if f=2 then 4 else 1
structure MkPar(kind:Int)(m:Nat)(k:Mk)(esc:Bool)(run:List UInt8)(far:Int):Prop where
 ref:k.ref=(decide (qas m=1) && qht run)
 hex:0≤k.hex
 str:qb7 m=true→(if esc=true then(1:Int) else if k.hex=0 then 0 else k.hex+1)=qdy (qbe m) run
 nostr:qb7 m=false→esc=false∧k.hex=0
 link:qba kind m=true→k.pct=qg8 run∧qja k.far=far∧0≤k.far∧k.far≤3
 nolink:qba kind m=false→k.pct=0∧k.far=0
theorem qdd{kind:Int}{m:Nat}(h:qba kind m=true):(m=8∨m=9)∧kind=1:=by
 unfold qba at h;rw[Bool.and_eq_true,Bool.or_eq_true,beq_iff_eq,beq_iff_eq,beq_iff_eq]at h;exact⟨h.2,h.1⟩
theorem qfz:∀m:Nat,m≤33→qb7 (m:Int)=true→qas m≠1∧m≠8∧m≠9∧m≠1∧m≠19:=by
 have:∀m:Nat,m≤33→qb7 (m:Int)=true→qas m≠1∧m≠8∧m≠9∧m≠1∧m≠19:=by decide
 exact this
theorem qzw:∀m:Nat,m≤33→qas m=1→m=1∨m=8∨m=9∨m=19:=by decide
theorem q3c(kind:Int)(m:Nat):MkPar kind m Mk.none false [] (if m=8∨m=9 then 2 else 0):=by
 refine⟨?_,by decide,fun _=>rfl,fun _=>⟨rfl,rfl⟩,fun h=>⟨rfl,?_,by decide,by decide⟩,fun _=>⟨rfl,rfl⟩⟩
 ·show false=_
  rw[show qht []=false from rfl,Bool.and_false]
 ·rw[if_pos (qdd h).1];rfl
theorem qld(kind:Int)(m:Nat)(far:Int)(h:m≠8)(h':m≠9):MkPar kind m Mk.none false [] far:=by
 refine⟨?_,by decide,fun _=>rfl,fun _=>⟨rfl,rfl⟩,fun q=>?_,fun _=>⟨rfl,rfl⟩⟩
 ·show false=_
  rw[show qht []=false from rfl,Bool.and_false]
 ·exfalso
  rcases(qdd q).1 with z | z
  ·exact h z
  ·exact h' z
theorem q6k(kind:Int)(m:Nat)(f:Int)(b:UInt8)(hl:qba kind m=true)(ha:0≤f)(Ha:f≤3):qja (qdr kind m f b)=qcq (qja f) b∧0≤qdr kind m f b∧qdr kind m f b≤3:=by
 have hf:f=0∨f=1∨f=2∨f=3:=by omega
 unfold qdr qbv;rw[hl,Bool.true_and];have hd:among b qhe=(b==47 || (b==63 || (b==35 || b==58))):=by
  have:∀n∈List.range 256,among (UInt8.ofNat n) qhe=((UInt8.ofNat n)==47 || ((UInt8.ofNat n)==63 || ((UInt8.ofNat n)==35 || (UInt8.ofNat n)==58))):=by decide +kernel
  have:=this b.toNat (List.mem_range.2 b.toNat_lt)
  rwa [UInt8.ofNat_toNat]at this
 rw[hd];unfold qcq;cases h1:(b==47)<;>cases h2:(b==63)<;>cases h3:(b==35)<;>cases h4:(b==58)
 all_goals
  rcases hf with rfl | rfl | rfl | rfl
  all_goals first
   | (refine⟨?_,?_,?_⟩<;>decide)
   | (exfalso;first | exact absurd ((beq_iff_eq.1 h1).symm.trans (beq_iff_eq.1 h2)) (by decide) | exact absurd ((beq_iff_eq.1 h1).symm.trans (beq_iff_eq.1 h3)) (by decide) | exact absurd ((beq_iff_eq.1 h1).symm.trans (beq_iff_eq.1 h4)) (by decide) | exact absurd ((beq_iff_eq.1 h2).symm.trans (beq_iff_eq.1 h3)) (by decide) | exact absurd ((beq_iff_eq.1 h2).symm.trans (beq_iff_eq.1 h4)) (by decide) | exact absurd ((beq_iff_eq.1 h3).symm.trans (beq_iff_eq.1 h4)) (by decide))
theorem q38(css:Bool)(h:Int)(b:UInt8)(h0:0≤h)(hb:b≠92):(if qdq h b=0 then(0:Int) else qdq h b+1)=qcl css (if h=0 then 0 else h+1) b:=by
 have hL:((if h=0 then 0 else h+1:Int)=0∧h=0)∨((if h=0 then 0 else h+1:Int)=h+1∧1≤h):=by
  by_cases hz:h=0
  ·left;exact⟨if_pos hz,hz⟩
  ·right;exact⟨if_neg hz,by omega⟩
 generalize (if h=0 then 0 else h+1:Int)=L at hL;unfold qcl qdq;have ha:among b hexB=among b qa2:=rfl;rw[ha];have h1:¬L=1:=by omega
 rw[if_neg h1];by_cases hx:among b qa2=true
 ·rcases hL with ⟨q,z⟩ | ⟨q,z⟩
  ·have c1:¬(0<h∧among b qa2=true):=fun q=>by omega
   have c2:¬(1<L∧among b qa2=true):=fun q=>by omega
   rw[if_neg c1,if_neg c2,if_neg hb];rfl
  ·have c1:0<h∧among b qa2=true:=⟨by omega,hx⟩
   have c2:1<L∧among b qa2=true:=⟨by omega,hx⟩;rw[if_pos c1,if_pos c2];by_cases y:h - 1=0
   ·rw[if_pos y,if_pos (by omega)]
   ·rw[if_neg y,if_neg (by omega)];omega
 ·have c1:¬(0<h∧among b qa2=true):=fun q=>hx q.2
  have c2:¬(1<L∧among b qa2=true):=fun q=>hx q.2;rw[if_neg c1,if_neg c2,if_neg hb];rfl
theorem qqr(kind:Int)(m:Nat)(hm:m≤33)(k:Mk)(run:List UInt8)(far:Int)(b:UInt8)(h:MkPar kind m k false run far)(hb:qb7 (m:Int)=true→b≠92)
  (run':List UInt8) (far':Int) (ha:(qb7 (m:Int)=true∨qas m=1)→run'=kept m (run++[b])) (Ha:m=8∨m=9→far'=qcq far b) :
  MkPar kind m (qcd kind m k b) false run' far':=by
 by_cases hs:qb7 (m:Int)=true
 ·obtain⟨n1,n8,n9,_,_⟩:=qfz m hm hs
  have hl:qba kind m=false:=by
   rw[Bool.eq_false_iff];intro q;rcases(qdd q).1 with z | z
   ·exact n8 z
   ·exact n9 z
  have hc:=h.str hs;rw[if_neg (by simp)]at hc;have h0:=h.hex;refine⟨?_,?_,fun _=>?_,fun q=>?_,fun q=>?_,fun _=>⟨?_,?_⟩⟩
  ·unfold qcd;rw[if_neg n1,decide_eq_false n1,Bool.false_and]
  ·show 0≤qdq k.hex b
   unfold qdq;split
   ·next q=>omega
   ·omega
  ·rw[if_neg (by simp),ha (.inl hs),qyy _ _ hs,qgp,←hc]
   exact q38 _ _ _ h0 (hb hs)
  ·rw[hs]at q;cases q
  ·rw[hl]at q;cases q
  ·unfold qcd;rw[hl];rfl
  ·unfold qcd;rw[hl];rfl
 ·have Hb:=Bool.eq_false_iff.2 hs
  obtain⟨_,Hc⟩:=h.nostr Hb;refine⟨?_,?_,fun q=>absurd q hs,fun _=>⟨rfl,?_⟩,fun hl=>?_,fun hl=>⟨?_,?_⟩⟩
  ·by_cases hw:qas m=1
   ·rw[decide_eq_true hw,Bool.true_and,ha (.inr hw),q59 _ _ Hb,q0f]
    unfold qcd;rw[if_pos hw,q6f,h.ref,decide_eq_true hw,Bool.true_and,Bool.and_comm]
   ·rw[decide_eq_false hw,Bool.false_and]
    unfold qcd;rw[if_neg hw]
  ·show 0≤qdq k.hex b
   rw[Hc];unfold qdq;rw[if_neg (fun q=>absurd q.1 (by omega))];omega
  ·show qdq k.hex b=0
   rw[Hc];unfold qdq;rw[if_neg (fun q=>absurd q.1 (by omega))]
  ·obtain⟨l1,l2,l3,l4⟩:=h.link hl
   have he:=(qdd hl).1;have hw:qas m=1:=by rcases he with rfl | rfl<;>rfl
   obtain⟨f1,f2,f3⟩:=q6k kind m k.far b hl l3 l4;have e1:(qcd kind m k b).pct=if b=37 then 2 else qdq k.pct b:=by unfold qcd;rw[hl];rfl
   have e2:(qcd kind m k b).far=qdr kind m k.far b:=by unfold qcd;rw[hl];rfl
   rw[e1,e2,ha (.inr hw),q6a _ _ Hb (by omega),q0n,l1,Ha he,←l2];exact⟨rfl,f1,f2,f3⟩
  ·unfold qcd;rw[hl];rfl
  ·unfold qcd;rw[hl];rfl
structure ParX(x:Sx)(p:Sp):Prop where
 par:Par x.st p
 kind:6≤x.st.mode→x.st.mode≤9→x.st.kind=qcw p.attr
 plain:¬(6≤x.st.mode∧x.st.mode≤9)→x.st.kind=0
 ma:MkPar x.st.kind x.st.mode x.ma x.st.esc p.run p.far
theorem qud(s:St)(t:Nat)(b:UInt8)(h:t≠34):(s.led1 t b).kind=if t=4∨t=5∨t=10 then 0 else s.kind:=by
 unfold St.led1;by_cases c3:t=3
 ·rw[if_pos c3,if_neg (by omega)]
 rw[if_neg c3];by_cases c5:t=5
 ·rw[if_pos c5,if_pos (by omega)]
 rw[if_neg c5];by_cases c4:t=4∨t=10
 ·rw[if_pos c4,if_pos (by omega)]
 rw[if_neg c4,if_neg h,if_neg (by omega)]
theorem qsi(s:St)(t:Nat)(b:UInt8)(h:t≠34):(s.led t b).kind=if t=4∨t=5∨t=10 then 0 else if t≠s.mode∧s.mode=5 then qcw s.name else s.kind:=by
 unfold St.led;by_cases q:t=s.mode
 ·have:¬(t≠s.mode∧s.mode=5):=fun z=>z.1 q
  rw[if_pos q,qud s t b h,if_neg this]
 ·rw[if_neg q,qud _ t b h]
  unfold St.named;by_cases w:s.mode=5
  ·have:t≠s.mode∧s.mode=5:=⟨q,w⟩
   rw[if_pos this,if_pos w]
  ·have:¬(t≠s.mode∧s.mode=5):=fun z=>w z.2
   rw[if_neg this,if_neg w]
theorem q0u{kind kind':Int}{m:Nat}{k:Mk}{esc:Bool}{run:List UInt8}{far:Int}(h:MkPar kind m k esc run far)(h8:m≠8)(h9:m≠9):MkPar kind' m k esc run far:=by
 have no:∀z,qba z m=false:=fun z=>by
  rw[Bool.eq_false_iff];intro q;rcases(qdd q).1 with y | y
  ·exact h8 y
  ·exact h9 y
 exact⟨h.ref,h.hex,h.str,h.nostr,fun q=>(by rw[no]at q;cases q),fun _=>h.nolink (no _)⟩
def qvj(m:Nat)(c:UInt8):Bool:=if 6≤tgt m c∧tgt m c≤9 then decide (5≤m) && decide (m≤9) else true
theorem q1m:((List.range 34).all fun m=>(0::named).all fun c=>qvj m c)=true:=by decide +kernel
theorem q1n(m:Nat)(hm:m≤33)(b:UInt8)(h:6≤tgt m b∧tgt m b≤9):5≤m∧m≤9:=by
 have e:qvj m b=qvj m (cls b):=by unfold qvj;rw[qlu m hm b]
 have:=List.all_eq_true.1 ((List.all_eq_true.1 q1m) m (List.mem_range.2 (by omega))) _ (qku b);rw[←e]at this;unfold qvj at this;rw[if_pos h]at this;simpa only [Bool.and_eq_true,decide_eq_true_eq] using this
theorem q78(r:Nat)(hr:r≤33)(ha:r≠19)(h:qb7 (r:Int)=true∨qas r=1):runs (r:Int)=true:=by
 unfold runs;rcases h with h | h
 ·rw[h];simp
 ·rcases qzw r hr h with rfl | rfl | rfl | rfl
  ·rfl
  ·rfl
  ·rfl
  ·exact absurd rfl ha
theorem qny(n:List UInt8):(qcg n).kind=0∧(qcg n).esc=false∧(qcg n).mode≠8∧(qcg n).mode≠9∧¬(6≤(qcg n).mode∧(qcg n).mode≤9):=by
 unfold qcg qav
 repeat' split
 all_goals refine⟨rfl,rfl,?_,?_,?_⟩<;>simp
theorem qsg(m:Nat)(n e:List UInt8)(k:Int)(rd:Nat)(K:Mk)(p:Sp)(b:UInt8)(hs:(St.mk m n e k rd false).Ok)(hx:ParX ⟨St.mk m n e k rd false,K⟩ p)(r t:Nat)(PR:List UInt8)(PF:Int)
  (hj:r=m→PR=p.run∧PF=p.far) (hk:r≠m→K=Mk.none∧PR=[]) (hb:qb7 (m:Int)=true→b≠92) (Hk:r≠19)
  (hc:qm9 m b=true) (hr:qbw m b=r) (ht:qdc m b=t)
  (hT:tgt r b=t∨(tgt r b=-1∧t=34∧r=m)) :
  ParX (Sx.led ⟨St.mk r n e k rd false,K⟩ t b) ((Sp.mk r p.tag p.attr p.inside PR PF).step1 r b):=by
 have Hc:=qsh m n e k rd p b hs hx.par r t PR PF (fun q=>(hj q).1) hb hc hr ht hT;unfold qm9 at hc;simp only[Bool.and_eq_true,decide_eq_true_eq,Bool.or_eq_true]at hc;rw[hr,ht]at hc;obtain⟨⟨⟨⟨⟨⟨⟨⟨⟨⟨r1,r2⟩,t1⟩,t2⟩,hf⟩,Hl⟩,Ho⟩,h3⟩,h5⟩,h4⟩,Hj⟩:=hc;have ghi:=hs.hi;have gk:=hx.kind;have gp:=hx.plain;have gm:=hx.ma;have e5:=hx.par.attrName;simp only at ghi gk gp gm e5;have hp:(m<19↔(t<19∨t=34))∧(m<19↔r<19):=by
  by_cases hm:m<19
  ·rw[if_pos hm]at hf
   simp only[Bool.and_eq_true,Bool.or_eq_true,decide_eq_true_eq]at hf;omega
  ·rw[if_neg hm]at hf
   simp only[Bool.and_eq_true,decide_eq_true_eq]at hf;omega
 clear hf;have Hm:MkPar k r K false PR PF:=by
  by_cases q:r=m
  ·obtain⟨q1,q2⟩:=hj q
   rw[q1,q2,q];exact gm
  ·obtain⟨q1,q2⟩:=hk q
   rw[q1,q2];refine qld k r PF ?_ ?_<;>omega
 rcases hT with hT | ⟨hT,Hf,hg⟩
 ·have c34:t≠34:=by
   intro c34;have:=qn8 r b r2;rw[hT]at this;subst c34;rcases this with q | q | ⟨k,q,q'⟩<;>omega
  obtain⟨fm,_,_,fx,_⟩:=q54 (St.mk r n e k rd false) t b c34;have fk:=qsi (St.mk r n e k rd false) t b c34;simp only at fx fk;have hn:t=3∨t=5∨t=4∨(6≤t∧t≤10)→r=m:=by
   intro q;rcases Hl with z | z
   ·rcases z with z | z
    ·exact z
    ·exfalso
     have:∀c∈(0::named:List UInt8),tgt 1 c=1∨tgt 1 c=2:=by decide
     have h1:=this _ (qku b);rw[←qlu 1 (by omega) b]at h1;rw[z.2]at hT;omega
   ·omega
  have Ha:((Sp.mk r p.tag p.attr p.inside PR PF).step1 r b)=⟨t,(Sp.named ⟨r,p.tag,p.attr,p.inside,PR,PF⟩ r b t).tag,(Sp.named ⟨r,p.tag,p.attr,p.inside,PR,PF⟩ r b t).attr,(Sp.named ⟨r,p.tag,p.attr,p.inside,PR,PF⟩ r b t).inside,
    (if(t:Int)=r∧runs t=true then kept t (PR++[b]) else[]),(if(t:Int)=8∨(t:Int)=9 then(if(t:Int)=r then qcq PF b else 2) else 0)⟩:=by
   unfold Sp.step1;rw[hT,if_neg (by omega)]
  have Hg:(Sx.led ⟨St.mk r n e k rd false,K⟩ t b).ma=if t=r then qcd k r K b else Mk.none:=by
   show qle _ _ _ _=_;unfold qle;by_cases q:t=r
   ·rw[if_pos q,if_pos ⟨q,c34⟩]
   ·rw[if_neg q,if_neg (fun z=>q z.1)]
  have he:(Sx.led ⟨St.mk r n e k rd false,K⟩ t b).st=(St.mk r n e k rd false).led t b:=rfl;refine⟨Hc,fun q q'=>?_,fun q=>?_,?_⟩
  ·rw[he,fm]at q q'
   rw[he,fk,Ha];have Hn:=hn (by omega);have ha:=q1n r r2 b (by rw[hT];omega);have He:(Sp.named ⟨r,p.tag,p.attr,p.inside,PR,PF⟩ r b t).attr=p.attr:=by
    unfold Sp.named;rw[if_neg (by omega),if_neg (by omega),if_neg (by omega),if_pos (by omega)]
   show _=qcw (Sp.named ⟨r,p.tag,p.attr,p.inside,PR,PF⟩ r b t).attr;rw[He,if_neg (by omega)];by_cases z:r=5
   ·have y:t≠r∧r=5:=⟨by omega,z⟩
    rw[if_pos y,e5 (by omega)]
   ·have y:¬(t≠r∧r=5):=fun y=>z y.2
    rw[if_neg y];exact gk (by omega) (by omega)
  ·rw[he,fm]at q
   rw[he,fk];by_cases z:t=4∨t=5∨t=10
   ·rw[if_pos z]
   ·rw[if_neg z]
    have Hp:¬(4≤m∧m≤10):=by
     by_cases y:t=3
     ·rw[if_pos y]at h3
      simp only[Bool.or_eq_true,decide_eq_true_eq]at h3;omega
     ·by_cases y19:t<19
      ·rw[if_pos (by omega)]at Hj
       simp only[Bool.and_eq_true,Bool.or_eq_true,decide_eq_true_eq]at Hj;omega
      ·omega
    have y:¬(t≠r∧r=5):=by
     rintro⟨_,y⟩;have:r=m∨(m=2∧r=1)∨24≤m:=by omega
     omega
    rw[if_neg y];exact gp (by omega)
  ·rw[he,fm,fx,Hg,Ha]
   show MkPar _ t _ false (if(t:Int)=r∧runs t=true then kept t (PR++[b]) else[]) (if(t:Int)=8∨(t:Int)=9 then(if(t:Int)=r then qcq PF b else 2) else 0);by_cases q:t=r
   ·subst q
    rw[if_pos rfl];have Hb:=qqr k t r2 K PR PF b Hm (fun q=>by
     by_cases z:t=m
     ·exact hb (by rw[←z];exact q)
     ·exfalso
      have ho:t=qg4 m:=by
       unfold qbw at hr;split at hr
       ·exact hr.symm
       ·exact absurd hr.symm z
      have:∀m:Nat,m≤33→qb7 (qg4 m:Nat)=false:=by decide
      rw[ho,this m ghi]at q;cases q)
     (if(t:Int)=t∧runs t=true then kept t (PR++[b]) else[]) (if(t:Int)=8∨(t:Int)=9 then(if(t:Int)=t then qcq PF b else 2) else 0)
     (fun z=>by rw[if_pos ⟨rfl,q78 t r2 Hk z⟩]) (fun z=>by rw[if_pos (by omega),if_pos rfl])
    by_cases z:t=4∨t=5∨t=10
    ·exact q0u Hb (by omega) (by omega)
    ·have y:¬(t≠t∧t=5):=fun y=>y.1 rfl
     rw[fk,if_neg z,if_neg y];exact Hb
   ·have q':¬(t:Int)=r:=by omega
    rw[if_neg q,if_neg (fun z=>q' z.1),if_neg q'];have:=q3c ((St.mk r n e k rd false).led t b).kind t;by_cases z:t=8∨t=9
    ·rw[if_pos z]at this
     rw[if_pos (by omega)];exact this
    ·rw[if_neg z]at this
     rw[if_neg (by omega)];exact this
 ·subst Hf hg
  have Hg:(Sx.led ⟨St.mk r n e k rd false,K⟩ 34 b).ma=Mk.none:=by
   show qle _ _ _ _=_;unfold qle;rw[if_neg (fun z=>z.2 rfl)]
  have hl:(Sx.led ⟨St.mk r n e k rd false,K⟩ 34 b).st=qcg (if r=3 then qax n else e):=by
   show (St.mk r n e k rd false).led 34 b=_;unfold St.led;have z:¬ 34=(St.mk r n e k rd false).mode:=by show ¬ 34=r;omega
   rw[if_neg z];rfl
  obtain⟨w1,w2,w3,w4,w5⟩:=qny (if r=3 then qax n else e);refine⟨Hc,fun q q'=>?_,fun _=>?_,?_⟩
  ·rw[hl]at q q'
   exact absurd ⟨q,q'⟩ w5
  ·rw[hl];exact w1
  ·rw[hl,Hg,w2]
   have Hi:((Sp.mk r p.tag p.attr p.inside PR PF).step1 r b).run=[]:=by
    unfold Sp.step1;rw[hT,if_pos rfl];split<;>rfl
   rw[Hi];exact qld _ _ _ w3 w4
def qpn(m:Nat)(c:UInt8):Bool:=if tgt m c=-2 then decide (m=2) || (decide (m=24) || decide (m=31)) else true
theorem q4x:((List.range 34).all fun m=>(0::named).all fun c=>qpn m c)=true:=by decide +kernel
theorem q4y(m:Nat)(hm:m≤33)(b:UInt8)(h:tgt m b=-2):m=2∨m=24∨m=31:=by
 have e:qpn m b=qpn m (cls b):=by unfold qpn;rw[qlu m hm b]
 have:=List.all_eq_true.1 ((List.all_eq_true.1 q4x) m (List.mem_range.2 (by omega))) _ (qku b);rw[←e]at this;unfold qpn at this;rw[if_pos h]at this;simpa only [Bool.or_eq_true,decide_eq_true_eq] using this
theorem q8h{kind:Int}{m:Nat}{k:Mk}{run:List UInt8}{far:Int}(h:MkPar kind m k false run far)(hm:m=2∨m=24∨m=31):k=Mk.none:=by
 obtain⟨a,c,d,f⟩:=k;have h1:=h.ref;have hs:qb7 (m:Int)=false:=by rcases hm with rfl | rfl | rfl<;>decide
 have hl:qba kind m=false:=by
  rw[Bool.eq_false_iff];intro q;rcases(qdd q).1 with y | y<;>omega
 have hw:decide (qas m=1)=false:=by rcases hm with rfl | rfl | rfl<;>decide
 have h2:=(h.nostr hs).2;have h3:=h.nolink hl;simp only at h1 h2 h3;rw[hw,Bool.false_and]at h1;rw[h1,h2,h3.1,h3.2];rfl
theorem qly(m:Nat)(n e:List UInt8)(k:Int)(rd:Nat)(K:Mk)(p:Sp)(b:UInt8)(hs:(St.mk m n e k rd false).Ok)(hx:ParX ⟨St.mk m n e k rd false,K⟩ p)(PM:Int)(hM:PM=m)(hb:qb7 (m:Int)=true→b≠92)(Hb:m≠19) :
  ParX (Sx.led ⟨St.mk (qbw m b) n e k rd false,K⟩ (qdc m b) b) ((Sp.mk PM p.tag p.attr p.inside p.run p.far).step m b):=by
 subst hM;have h1:=hs.lo;have h2:=hs.hi;simp only at h1 h2;have ha:=qlq m h1 h2 b;have Ha:=qog m h1 h2 b;unfold qtb at ha;unfold Sp.step;by_cases c2:tgt m b=-2
 ·rw[if_pos c2]at ha ⊢
  simp only[Bool.and_eq_true,decide_eq_true_eq]at ha;obtain⟨⟨a1,a2⟩,a3⟩:=ha;have ne:qa8 m≠m:=by
   intro q;have:=qjh m b;rw[q]at this;exact this c2
  have a19:qa8 m≠19:=by
   unfold qa8
   repeat' split
   all_goals omega
  have:=qsg m n e k rd K p b hs hx (qa8 m) (qdc m b) [] p.far (fun q=>absurd q ne) (fun _=>⟨q8h hx.ma (q4y m h2 b c2),rfl⟩) hb a19 Ha a1 rfl (.inl a2.symm);rw[a1];exact this
 ·rw[if_neg c2]at ha ⊢
  by_cases c1:tgt m b=-1
  ·rw[if_pos c1]at ha
   simp only[Bool.and_eq_true,decide_eq_true_eq]at ha;rw[ha.1.1.1];exact qsg m n e k rd K p b hs hx m (qdc m b) p.run p.far (fun _=>⟨rfl,rfl⟩) (fun q=>absurd rfl q) hb Hb Ha ha.1.1.1 rfl (.inr ⟨c1,ha.1.1.2,rfl⟩)
  ·rw[if_neg c1]at ha
   simp only[Bool.and_eq_true,decide_eq_true_eq]at ha;rw[ha.1];exact qsg m n e k rd K p b hs hx m (qdc m b) p.run p.far (fun _=>⟨rfl,rfl⟩) (fun q=>absurd rfl q) hb Hb Ha ha.1 rfl (.inl ha.2.symm)
theorem q2i:∀m:Nat,m≤33→qb7 (m:Int)=true→m=21∨m=22∨m=23∨m=29∨m=30:=by decide
theorem q39(m:Nat)(b:UInt8):(qa7 m true b).hex=if qdl m b (21,23,[120],2)=true then 2 else if qdl m b (21,23,[117],4)=true then 4 else if qdl m b (29,30,hexB,5)=true then 5 else 0:=by
 have e:qa7 m true b=match qey.find? (qdl m b) with
  | some r=>⟨false,r.2.2.2,0,0⟩
  | none=>Mk.none:=rfl
 rw[e];unfold qey;rw[List.find?_cons,List.find?_cons,List.find?_cons,List.find?_nil];cases qdl m b (21,23,[120],2)<;>cases qdl m b (21,23,[117],4)<;>cases qdl m b (29,30,hexB,5)<;>rfl
theorem q36(m:Nat)(hm:m≤33)(h:qb7 (m:Int)=true)(b:UInt8):(if(qa7 m true b).hex=0 then(0:Int) else(qa7 m true b).hex+1)=qcl (qbe m) 1 b:=by
 have hx:among b hexB=among b qa2:=rfl;have e120:among b [120]=(b==120):=by
  show ([120]:List UInt8).any _=_;rw[List.any_cons,List.any_nil,Bool.or_false,Bool.beq_comm]
 have e117:among b [117]=(b==117):=by
  show ([117]:List UInt8).any _=_;rw[List.any_cons,List.any_nil,Bool.or_false,Bool.beq_comm]
 have e1:qcl (qbe m) 1 b=if(qbe m && among b qa2)=true then 6 else if(!qbe m && b==120)=true then 3 else if(!qbe m && b==117)=true then 5 else 0:=by unfold qcl;rw[if_pos rfl]
 have ha:(b==120)=true→(b==117)=false:=fun q=>by rw[beq_iff_eq]at q;subst q;decide
 rw[q39,e1];unfold qdl;simp only[hx,e120,e117];rcases q2i m hm h with rfl | rfl | rfl | rfl | rfl
 all_goals
  cases h1:(b==120)<;>cases h2:(b==117)<;>cases h3:among b qa2
  all_goals first | rfl | (exfalso;rw[ha h1]at h2;cases h2)
theorem quv(m:Nat)(z:Bool)(b:UInt8):(qa7 m z b).ref=false∧(qa7 m z b).pct=0∧(qa7 m z b).far=0:=by
 unfold qa7;split
 ·exact⟨rfl,rfl,rfl⟩
 ·split<;>exact⟨rfl,rfl,rfl⟩
theorem qp8(kind:Int)(m:Nat)(hm:m≤33)(h:qb7 (m:Int)=true):qba kind m=false:=by
 obtain⟨_,n8,n9,_,_⟩:=qfz m hm h;rw[Bool.eq_false_iff];intro q;rcases(qdd q).1 with y | y
 ·exact n8 y
 ·exact n9 y
theorem qot(x:Sx)(p:Sp)(b:UInt8)(Ho:SxOk x)(h:ParX x p):ParX (x.behind b) (p.next b):=by
 obtain⟨⟨m,n,e,k,rd,z⟩,K⟩:=x;have Hb:=q5w _ p b Ho.st h.par;have hs:=Ho.st;simp only at hs;have h1:=hs.lo;have h2:=hs.hi;have Hc:=hs.calm;have hb:=h.par.mode;have hk:=h.kind;have hl:=h.plain;have hf:=h.ma;simp only at h1 h2 Hc hb hk hl hf;have Ha:p.next b=if 19≤m then p.element m b else p.step m b:=by unfold Sp.next;rw[hb,Int.toNat_natCast]
 have hc:=quh m h2;by_cases hm:19≤m
 ·rw[if_pos hm]at Ha
  have hg:=h.par.tag hm;have Hl:=h.par.read hm;simp only at hg Hl;have hn:k=0:=hl (by omega);have He:(St.mk m n e k rd z).ends b=true↔(p.read=(qcm p.tag).length∧among b qdi=true):=by
   unfold St.ends;rw[Bool.and_eq_true,decide_eq_true_eq,Hl,hg];rfl
  unfold Sp.element at Ha;by_cases ce:p.read=(qcm p.tag).length∧among b qdi=true
  ·rw[if_pos ce]at Ha
   have hX:=qzl ⟨⟨m,n,e,k,rd,z⟩,K⟩ b hm (He.2 ce);have hq:qcy b=1∨qcy b=12:=by
    unfold qcy;split
    ·exact .inl rfl
    ·exact .inr rfl
   refine⟨Hb,?_,?_,?_⟩
   ·rw[hX];intro q q'
    exfalso
    replace q:6≤qcy b:=q
    replace q':qcy b≤9:=q'
    omega
   ·rw[hX];intro _;rfl
   ·rw[hX]
    have Hf:(p.next b).run=[]:=by rw[Ha];split<;>rfl
    rw[Hf];refine qld _ _ _ ?_ ?_<;>(simp only;omega)
  ·rw[if_neg ce]at Ha
   have Hm:¬(19≤(Sx.mk ⟨m,n,e,k,rd,z⟩ K).st.mode∧(Sx.mk ⟨m,n,e,k,rd,z⟩ K).st.ends b=true):=fun q=>ce (He.1 q.2);by_cases cs:qb7 (m:Int)=true
   ·have Hg:¬m=19:=(qfz m h2 cs).2.2.2.2
    have hp:=(qfz m h2 cs).1;have Hi:=hf.str cs;by_cases hz:z=true
    ·subst hz
     rw[if_pos rfl]at Hi;have w:qb7 (m:Int)=true∧qdy (qbe m) p.run=1:=⟨cs,Hi.symm⟩;rw[if_pos w]at Ha;have hX:=qve ⟨⟨m,n,e,k,rd,true⟩,K⟩ b Hm (by show (qa3.getD m false && (true || _))=true;rw[hc,cs];rfl);obtain⟨r1,r2,r3⟩:=quv m true b;refine⟨Hb,?_,?_,?_⟩
     ·rw[hX];intro q q';simp only at q';omega
     ·rw[hX];intro _;exact hn
     ·rw[hX,Ha]
      refine⟨?_,(qm3 m true b).hex.1,fun _=>?_,fun q=>?_,fun q=>?_,fun _=>⟨r2,r3⟩⟩
      ·show (qa7 m true b).ref=_
       rw[r1,decide_eq_false hp,Bool.false_and]
      ·show (if(!true)=true then(1:Int) else if(qa7 m true b).hex=0 then 0 else(qa7 m true b).hex+1)=qdy (qbe m) (p.run++[b])
       rw[if_neg (by simp),qgp,←Hi];exact q36 m h2 cs b
      ·replace q:qb7 (m:Int)=false:=q
       rw[cs]at q;cases q
      ·replace q:qba k m=true:=q
       rw[qp8 k m h2 cs]at q;cases q
    ·have hj:=Bool.eq_false_iff.2 hz
     subst hj;rw[if_neg (by simp)]at Hi;have hh:=hf.hex;have Hp:¬qdy (qbe m) p.run=1:=by rw[←Hi];split<;>omega
     have w:¬(qb7 (m:Int)=true∧qdy (qbe m) p.run=1):=fun q=>Hp q.2;rw[if_neg w,if_neg Hg]at Ha;by_cases cb:b=92
     ·subst cb
      have hX:=qve ⟨⟨m,n,e,k,rd,false⟩,K⟩ 92 Hm (by show (qa3.getD m false && (false || _))=true;rw[hc,cs];rfl);have Hf:(p.next 92).run=kept m (p.run++[92]):=by
       rw[Ha];unfold Sp.step Sp.step1;rw[qrb m h2 cs,if_neg (by omega),if_neg (by omega)];have Hj:(m:Int)=(m:Int)∧runs (m:Int)=true:=⟨rfl,by unfold runs;rw[cs];simp⟩;show (if _ then _ else _:List UInt8)=_;rw[if_pos Hj]
      refine⟨Hb,?_,?_,?_⟩
      ·rw[hX];intro q q';simp only at q';omega
      ·rw[hX];intro _;exact hn
      ·rw[hX,Hf]
       refine⟨?_,Int.le_refl 0,fun _=>?_,fun q=>?_,fun q=>?_,fun _=>⟨rfl,rfl⟩⟩
       ·show false=_
        rw[decide_eq_false hp,Bool.false_and]
       ·show (if(!false)=true then(1:Int) else _)=qdy (qbe m) _
        have ht:(!false)=true:=rfl;rw[if_pos ht,qyy _ _ cs,qgp,qm4 _ _ Hp]
       ·replace q:qb7 (m:Int)=false:=q
        rw[cs]at q;cases q
       ·replace q:qba k m=true:=q
        rw[qp8 k m h2 cs]at q;cases q
     ·have hX:=qph ⟨⟨m,n,e,k,rd,false⟩,K⟩ b _ _ Hm (by show (qa3.getD m false && (false || b==92))=false;rw[hc,cs,beq_eq_false_iff_ne.2 cb];rfl) rfl rfl
      rw[hX,Ha];have Hk:(St.mk m n e k rd false).nowRead b=(St.mk m n e k rd false).readEnd b:=by unfold St.nowRead;rw[if_pos hm]
      simp only;rw[Hk];refine qly m n e k _ K ⟨m,p.tag,p.attr,qcb (p.inside++[b]),p.run,p.far⟩ b ?_ ⟨?_,hk,hl,hf⟩ _ rfl (fun _=>cb) Hg
      ·exact⟨h1,h2,hs.name,hs.named,hs.elem,hs.bare,fun hh=>by simp only at hh;omega,hs.calm,qjp _ b,hs.wrap,hs.high⟩
      ·refine⟨rfl,h.par.tagName,h.par.attrName,h.par.inTag,h.par.tag,fun _=>?_,h.par.esc⟩
       show qbp (qcb (p.inside++[b])) (qcm p.tag) (qcm p.tag).length=_;rw[hg,qok _ _ _ hs.elem];have hr:qbp p.inside (qcm e) (qcm e).length=rd:=by
        have:p.read=qbp p.inside (qcm e) (qcm e).length:=by unfold Sp.read;rw[hg]
        rw[←this];exact Hl
       rw[hr];rfl
   ·have cs':=Bool.eq_false_iff.2 cs
    obtain⟨hj,Hq⟩:=hf.nostr cs';subst hj;have w:¬(qb7 (m:Int)=true∧qdy (qbe m) p.run=1):=fun q=>cs q.1;rw[if_neg w]at Ha;have hX:=qph ⟨⟨m,n,e,k,rd,false⟩,K⟩ b _ _ Hm (by show (qa3.getD m false && _)=false;rw[hc,cs'];rfl) rfl rfl;by_cases w19:m=19
    ·subst w19
     rw[if_pos rfl]at Ha;have ha:=qlq 19 (by omega) (by omega) b;have ht:tgt 19 b=19:=rfl;unfold qtb at ha;rw[ht,if_neg (by omega),if_neg (by omega)]at ha;simp only[Bool.and_eq_true,decide_eq_true_eq]at ha;have Hn:qbw 19 b=19:=ha.1;have ho:qdc 19 b=19:=by omega
     simp only at hX;rw[Hn,ho]at hX;refine⟨Hb,?_,?_,?_⟩
     ·rw[hX];intro q q';exfalso;replace q':19≤9:=q';omega
     ·rw[hX];intro _;exact hn
     ·rw[hX,Ha]
      exact qqr k 19 (by omega) K p.run p.far b hf (fun q=>by cases q) _ _ (fun _=>rfl) (fun q=>by omega)
    ·rw[if_neg w19]at Ha
     rw[hX,Ha];have Hk:(St.mk m n e k rd false).nowRead b=(St.mk m n e k rd false).readEnd b:=by unfold St.nowRead;rw[if_pos hm]
     simp only;rw[Hk];refine qly m n e k _ K ⟨m,p.tag,p.attr,qcb (p.inside++[b]),p.run,p.far⟩ b ?_ ⟨?_,hk,hl,hf⟩ _ rfl (fun q=>absurd q cs) w19
     ·exact⟨h1,h2,hs.name,hs.named,hs.elem,hs.bare,fun hh=>by simp only at hh;omega,hs.calm,qjp _ b,hs.wrap,hs.high⟩
     ·refine⟨rfl,h.par.tagName,h.par.attrName,h.par.inTag,h.par.tag,fun _=>?_,h.par.esc⟩
      show qbp (qcb (p.inside++[b])) (qcm p.tag) (qcm p.tag).length=_;rw[hg,qok _ _ _ hs.elem];have hr:qbp p.inside (qcm e) (qcm e).length=rd:=by
       have:p.read=qbp p.inside (qcm e) (qcm e).length:=by unfold Sp.read;rw[hg]
       rw[←this];exact Hl
      rw[hr];rfl
 ·rw[if_neg hm]at Ha
  have he:qa3.getD m false=false:=q37 m (by omega);have hj:z=false:=Hc he;subst hj;have hX:=qph ⟨⟨m,n,e,k,rd,false⟩,K⟩ b _ _ (fun q=>hm q.1) (by show (qa3.getD m false && _)=false;rw[he];rfl) rfl rfl;rw[hX,Ha];have Hk:(St.mk m n e k rd false).nowRead b=rd:=by unfold St.nowRead;rw[if_neg hm]
  simp only;rw[Hk];exact qly m n e k rd K p b hs h p.mode hb (fun q=>by have:=qy0 m h2 q;omega) (by omega)
theorem ql3:ParX Sx.start Sp.start:=
 ⟨qoq,fun q=>(by revert q;decide),fun _=>rfl,qld 0 1 0 (by decide) (by decide)⟩
theorem qo7(l:List UInt8):∀(x:Sx) (p:Sp),SxOk x→ParX x p→ParX (qaw x l) (qc7 p l):=by
 induction l with
 | nil=>intro x p _ h;exact h
 | cons b l ih=>intro x p ha h;exact ih _ _ (qkd b ha) (qot x p b ha h)
end Go.Proofs.YtfkhljmiehdgmaaGreatDoor.Pl
