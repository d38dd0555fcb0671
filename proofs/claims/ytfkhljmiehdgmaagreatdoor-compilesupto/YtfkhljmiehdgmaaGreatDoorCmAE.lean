/-
  Steps of the proof.
-/
import Derived.Test.YtfkhljmiehdgmaaGreatDoorCmAD
import Derived.DeepKeys3
namespace Go.Proofs.YtfkhljmiehdgmaaGreatDoor.Pl
def qpu(m:Nat)(c:UInt8):Bool:=if tgt m c=-2 then decide (m=2) || (decide (m=24) || decide (m=31))else true
theorem q5c:((List.range 34).all fun m=>(0::named).all fun c=>qpu m c)=true:=by decide +kernel
theorem q5d(m:Nat)(hm:m<=33)(b:UInt8)(h:tgt m b=-2):m=2\/m=24\/m=31:=by
 have e:qpu m b=qpu m (cls b):=by unfold qpu;rw[ql0 m hm b]
 have:=List.all_eq_true.1 ((List.all_eq_true.1 q5c) m (List.mem_range.2 (by omega))) _ (qky b);rw[<-e]at this;unfold qpu at this;rw[if_pos h]at this;simpa only [Bool.or_eq_true,decide_eq_true_eq]using this
theorem q8z{kind:Int}{m:Nat}{k:Mk}{run:List UInt8}{far:Int}(h:MkPar kind m k false run far)(hm:m=2\/m=24\/m=31):k=Mk.none:=by
 obtain⟨a,c,d,f⟩:=k;have h1:=h.ref;have hs:qb8 (m:Int)=false:=by rcases hm with rfl|rfl|rfl<;>decide
 have hl:qba kind m=false:=by
  rw[Bool.eq_false_iff];intro q;rcases(qdf q).1 with y|y<;>omega
 have hw:decide (qat m=1)=false:=by rcases hm with rfl|rfl|rfl<;>decide
 have h2:=(h.nostr hs).2;have h3:=h.nolink hl;simp only at h1 h2 h3;rw[hw,Bool.false_and]at h1;rw[h1,h2,h3.1,h3.2];rfl
theorem ql4(m:Nat)(n e:List UInt8)(k:Int)(rd:Nat)(K:Mk)(p:Sp)(b:UInt8)(hs:(St.mk m n e k rd false).Ok)(hx:ParX ⟨St.mk m n e k rd false,K⟩ p)(PM:Int)(hM:PM=m)(hb:qb8 (m:Int)=true->b≠92)(Hb:m≠19) :
  ParX (Sx.led ⟨St.mk (qbw m b) n e k rd false,K⟩ (qde m b) b) ((Sp.mk PM p.tag p.attr p.inside p.run p.far).step m b):=by
 subst hM;have h1:=hs.lo;have h2:=hs.hi;simp only at h1 h2;have ha:=qlw m h1 h2 b;have Ha:=qon m h1 h2 b;unfold qtl at ha;unfold Sp.step;by_cases c2:tgt m b=-2
 ·rw[if_pos c2]at ha |-
  simp only[Bool.and_eq_true,decide_eq_true_eq]at ha;obtain⟨⟨a1,a2⟩,a3⟩:=ha;have ne:qa8 m≠m:=by
   intro q;have:=qjk m b;rw[q]at this;exact this c2
  have a19:qa8 m≠19:=by
   unfold qa8
   repeat' split
   all_goals omega
  have:=qsp m n e k rd K p b hs hx (qa8 m) (qde m b) [] p.far (fun q=>absurd q ne) (fun _=>⟨q8z hx.ma (q5d m h2 b c2),rfl⟩) hb a19 Ha a1 rfl (.inl a2.symm);rw[a1];exact this
 ·rw[if_neg c2]at ha |-
  by_cases c1:tgt m b=-1
  ·rw[if_pos c1]at ha
   simp only[Bool.and_eq_true,decide_eq_true_eq]at ha;rw[ha.1.1.1];exact qsp m n e k rd K p b hs hx m (qde m b) p.run p.far (fun _=>⟨rfl,rfl⟩) (fun q=>absurd rfl q) hb Hb Ha ha.1.1.1 rfl (.inr ⟨c1,ha.1.1.2,rfl⟩)
  ·rw[if_neg c1]at ha
   simp only[Bool.and_eq_true,decide_eq_true_eq]at ha;rw[ha.1];exact qsp m n e k rd K p b hs hx m (qde m b) p.run p.far (fun _=>⟨rfl,rfl⟩) (fun q=>absurd rfl q) hb Hb Ha ha.1 rfl (.inl ha.2.symm)
theorem q2x:∀m:Nat,m<=33->qb8 (m:Int)=true->m=21\/m=22\/m=23\/m=29\/m=30:=by decide
theorem q4o(m:Nat)(b:UInt8):(qa7 m true b).hex=if qdo m b (21,23,[120],2)=true then 2 else if qdo m b (21,23,[117],4)=true then 4 else if qdo m b (29,30,hexB,5)=true then 5 else 0:=by
 have e:qa7 m true b=match qe1.find? (qdo m b)with
  |some r=>⟨false,r.2.2.2,0,0⟩
  |none=>Mk.none:=rfl
 rw[e];unfold qe1;rw[List.find?_cons,List.find?_cons,List.find?_cons,List.find?_nil];cases qdo m b (21,23,[120],2)<;>cases qdo m b (21,23,[117],4)<;>cases qdo m b (29,30,hexB,5)<;>rfl
theorem q4l(m:Nat)(hm:m<=33)(h:qb8 (m:Int)=true)(b:UInt8):(if(qa7 m true b).hex=0 then(0:Int)else(qa7 m true b).hex+1)=qcl (qbe m) 1 b:=by
 have hx:among b hexB=among b qa2:=rfl;have e120:among b [120]=(b==120):=by
  show([120]:List UInt8).any _=_;rw[List.any_cons,List.any_nil,Bool.or_false,Bool.beq_comm]
 have e117:among b [117]=(b==117):=by
  show([117]:List UInt8).any _=_;rw[List.any_cons,List.any_nil,Bool.or_false,Bool.beq_comm]
 have e1:qcl (qbe m) 1 b=if(qbe m && among b qa2)=true then 6 else if(!qbe m && b==120)=true then 3 else if(!qbe m && b==117)=true then 5 else 0:=by unfold qcl;rw[if_pos rfl]
 have ha:(b==120)=true->(b==117)=false:=fun q=>by rw[beq_iff_eq]at q;subst q;decide
 rw[q4o,e1];unfold qdo;simp only[hx,e120,e117];rcases q2x m hm h with rfl|rfl|rfl|rfl|rfl
 all_goals
  cases h1:(b==120)<;>cases h2:(b==117)<;>cases h3:among b qa2
  all_goals first|rfl|(exfalso;rw[ha h1]at h2;cases h2)
theorem qu9(m:Nat)(z:Bool)(b:UInt8):(qa7 m z b).ref=false/\(qa7 m z b).pct=0/\(qa7 m z b).far=0:=by
 unfold qa7;split
 ·exact⟨rfl,rfl,rfl⟩
 ·split<;>exact⟨rfl,rfl,rfl⟩
theorem qqg(kind:Int)(m:Nat)(hm:m<=33)(h:qb8 (m:Int)=true):qba kind m=false:=by
 obtain⟨_,n8,n9,_,_⟩:=qf1 m hm h;rw[Bool.eq_false_iff];intro q;rcases(qdf q).1 with y|y
 ·exact n8 y
 ·exact n9 y
theorem qo0(x:Sx)(p:Sp)(b:UInt8)(Ho:SxOk x)(h:ParX x p):ParX (x.behind b) (p.next b):=by
 obtain⟨⟨m,n,e,k,rd,z⟩,K⟩:=x;have Hb:=q6c _ p b Ho.st h.par;have hs:=Ho.st;simp only at hs;have h1:=hs.lo;have h2:=hs.hi;have Hc:=hs.calm;have hb:=h.par.mode;have hk:=h.kind;have hl:=h.plain;have hf:=h.ma;simp only at h1 h2 Hc hb hk hl hf;have Ha:p.next b=if 19<=m then p.element m b else p.step m b:=by unfold Sp.next;rw[hb,Int.toNat_natCast]
 have hc:=quu m h2;by_cases hm:19<=m
 ·rw[if_pos hm]at Ha
  have hg:=h.par.tag hm;have Hl:=h.par.read hm;simp only at hg Hl;have hn:k=0:=hl (by omega);have He:(St.mk m n e k rd z).ends b=true↔(p.read=(qcm p.tag).length/\among b qdl=true):=by
   unfold St.ends;rw[Bool.and_eq_true,decide_eq_true_eq,Hl,hg];rfl
  unfold Sp.element at Ha;by_cases ce:p.read=(qcm p.tag).length/\among b qdl=true
  ·rw[if_pos ce]at Ha
   have hX:=qzy ⟨⟨m,n,e,k,rd,z⟩,K⟩ b hm (He.2 ce);have hq:qc0 b=1\/qc0 b=12:=by
    unfold qc0;split
    ·exact .inl rfl
    ·exact .inr rfl
   refine⟨Hb,?_,?_,?_⟩
   ·rw[hX];intro q q'
    exfalso
    replace q:6<=qc0 b:=q
    replace q':qc0 b<=9:=q'
    omega
   ·rw[hX];intro _;rfl
   ·rw[hX]
    have Hf:(p.next b).run=[]:=by rw[Ha];split<;>rfl
    rw[Hf];refine qli _ _ _ ?_ ?_<;>(simp only;omega)
  ·rw[if_neg ce]at Ha
   have Hm:¬(19<=(Sx.mk ⟨m,n,e,k,rd,z⟩ K).st.mode/\(Sx.mk ⟨m,n,e,k,rd,z⟩ K).st.ends b=true):=fun q=>ce (He.1 q.2);by_cases cs:qb8 (m:Int)=true
   ·have Hg:¬m=19:=(qf1 m h2 cs).2.2.2.2
    have hp:=(qf1 m h2 cs).1;have Hi:=hf.str cs;by_cases hz:z=true
    ·subst hz
     rw[if_pos rfl]at Hi;have w:qb8 (m:Int)=true/\qd1 (qbe m) p.run=1:=⟨cs,Hi.symm⟩;rw[if_pos w]at Ha;have hX:=qvs ⟨⟨m,n,e,k,rd,true⟩,K⟩ b Hm (by show(qa3.getD m false && (true || _))=true;rw[hc,cs];rfl);obtain⟨r1,r2,r3⟩:=qu9 m true b;refine⟨Hb,?_,?_,?_⟩
     ·rw[hX];intro q q';simp only at q';omega
     ·rw[hX];intro _;exact hn
     ·rw[hX,Ha]
      refine⟨?_,(qm9 m true b).hex.1,fun _=>?_,fun q=>?_,fun q=>?_,fun _=>⟨r2,r3⟩⟩
      ·show(qa7 m true b).ref=_
       rw[r1,decide_eq_false hp,Bool.false_and]
      ·show(if(!true)=true then(1:Int)else if(qa7 m true b).hex=0 then 0 else(qa7 m true b).hex+1)=qd1 (qbe m) (p.run++[b])
       rw[if_neg (by simp),qgs,<-Hi];exact q4l m h2 cs b
      ·replace q:qb8 (m:Int)=false:=q
       rw[cs]at q;cases q
      ·replace q:qba k m=true:=q
       rw[qqg k m h2 cs]at q;cases q
    ·have hj:=Bool.eq_false_iff.2 hz
     subst hj;rw[if_neg (by simp)]at Hi;have hh:=hf.hex;have Hp:¬qd1 (qbe m) p.run=1:=by rw[<-Hi];split<;>omega
     have w:¬(qb8 (m:Int)=true/\qd1 (qbe m) p.run=1):=fun q=>Hp q.2;rw[if_neg w,if_neg Hg]at Ha;by_cases cb:b=92
     ·subst cb
      have hX:=qvs ⟨⟨m,n,e,k,rd,false⟩,K⟩ 92 Hm (by show(qa3.getD m false && (false || _))=true;rw[hc,cs];rfl);have Hf:(p.next 92).run=kept m (p.run++[92]):=by
       rw[Ha];unfold Sp.step Sp.step1;rw[qrj m h2 cs,if_neg (by omega),if_neg (by omega)];have Hj:(m:Int)=(m:Int)/\runs (m:Int)=true:=⟨rfl,by unfold runs;rw[cs];simp⟩;show(if _ then _ else _:List UInt8)=_;rw[if_pos Hj]
      refine⟨Hb,?_,?_,?_⟩
      ·rw[hX];intro q q';simp only at q';omega
      ·rw[hX];intro _;exact hn
      ·rw[hX,Hf]
       refine⟨?_,Int.le_refl 0,fun _=>?_,fun q=>?_,fun q=>?_,fun _=>⟨rfl,rfl⟩⟩
       ·show false=_
        rw[decide_eq_false hp,Bool.false_and]
       ·show(if(!false)=true then(1:Int)else _)=qd1 (qbe m) _
        have ht:(!false)=true:=rfl;rw[if_pos ht,qzb _ _ cs,qgs,qna _ _ Hp]
       ·replace q:qb8 (m:Int)=false:=q
        rw[cs]at q;cases q
       ·replace q:qba k m=true:=q
        rw[qqg k m h2 cs]at q;cases q
     ·have hX:=qpo ⟨⟨m,n,e,k,rd,false⟩,K⟩ b _ _ Hm (by show(qa3.getD m false && (false || b==92))=false;rw[hc,cs,beq_eq_false_iff_ne.2 cb];rfl) rfl rfl
      rw[hX,Ha];have Hk:(St.mk m n e k rd false).nowRead b=(St.mk m n e k rd false).readEnd b:=by unfold St.nowRead;rw[if_pos hm]
      simp only;rw[Hk];refine ql4 m n e k _ K ⟨m,p.tag,p.attr,qcb (p.inside++[b]),p.run,p.far⟩ b ?_ ⟨?_,hk,hl,hf⟩ _ rfl (fun _=>cb) Hg
      ·exact⟨h1,h2,hs.name,hs.named,hs.elem,hs.bare,fun hh=>by simp only at hh;omega,hs.calm,qjs _ b,hs.wrap,hs.high⟩
      ·refine⟨rfl,h.par.tagName,h.par.attrName,h.par.inTag,h.par.tag,fun _=>?_,h.par.esc⟩
       show qbp (qcb (p.inside++[b])) (qcm p.tag) (qcm p.tag).length=_;rw[hg,qor _ _ _ hs.elem];have hr:qbp p.inside (qcm e) (qcm e).length=rd:=by
        have:p.read=qbp p.inside (qcm e) (qcm e).length:=by unfold Sp.read;rw[hg]
        rw[<-this];exact Hl
       rw[hr];rfl
   ·have cs':=Bool.eq_false_iff.2 cs
    obtain⟨hj,Hq⟩:=hf.nostr cs';subst hj;have w:¬(qb8 (m:Int)=true/\qd1 (qbe m) p.run=1):=fun q=>cs q.1;rw[if_neg w]at Ha;have hX:=qpo ⟨⟨m,n,e,k,rd,false⟩,K⟩ b _ _ Hm (by show(qa3.getD m false && _)=false;rw[hc,cs'];rfl) rfl rfl;by_cases w19:m=19
    ·subst w19
     rw[if_pos rfl]at Ha;have ha:=qlw 19 (by omega) (by omega) b;have ht:tgt 19 b=19:=rfl;unfold qtl at ha;rw[ht,if_neg (by omega),if_neg (by omega)]at ha;simp only[Bool.and_eq_true,decide_eq_true_eq]at ha;have Hn:qbw 19 b=19:=ha.1;have ho:qde 19 b=19:=by omega
     simp only at hX;rw[Hn,ho]at hX;refine⟨Hb,?_,?_,?_⟩
     ·rw[hX];intro q q';exfalso;replace q':19<=9:=q';omega
     ·rw[hX];intro _;exact hn
     ·rw[hX,Ha]
      exact qqz k 19 (by omega) K p.run p.far b hf (fun q=>by cases q) _ _ (fun _=>rfl) (fun q=>by omega)
    ·rw[if_neg w19]at Ha
     rw[hX,Ha];have Hk:(St.mk m n e k rd false).nowRead b=(St.mk m n e k rd false).readEnd b:=by unfold St.nowRead;rw[if_pos hm]
     simp only;rw[Hk];refine ql4 m n e k _ K ⟨m,p.tag,p.attr,qcb (p.inside++[b]),p.run,p.far⟩ b ?_ ⟨?_,hk,hl,hf⟩ _ rfl (fun q=>absurd q cs) w19
     ·exact⟨h1,h2,hs.name,hs.named,hs.elem,hs.bare,fun hh=>by simp only at hh;omega,hs.calm,qjs _ b,hs.wrap,hs.high⟩
     ·refine⟨rfl,h.par.tagName,h.par.attrName,h.par.inTag,h.par.tag,fun _=>?_,h.par.esc⟩
      show qbp (qcb (p.inside++[b])) (qcm p.tag) (qcm p.tag).length=_;rw[hg,qor _ _ _ hs.elem];have hr:qbp p.inside (qcm e) (qcm e).length=rd:=by
       have:p.read=qbp p.inside (qcm e) (qcm e).length:=by unfold Sp.read;rw[hg]
       rw[<-this];exact Hl
      rw[hr];rfl
 ·rw[if_neg hm]at Ha
  have he:qa3.getD m false=false:=q4m m (by omega);have hj:z=false:=Hc he;subst hj;have hX:=qpo ⟨⟨m,n,e,k,rd,false⟩,K⟩ b _ _ (fun q=>hm q.1) (by show(qa3.getD m false && _)=false;rw[he];rfl) rfl rfl;rw[hX,Ha];have Hk:(St.mk m n e k rd false).nowRead b=rd:=by unfold St.nowRead;rw[if_neg hm]
  simp only;rw[Hk];exact ql4 m n e k rd K p b hs h p.mode hb (fun q=>by have:=qzd m h2 q;omega) (by omega)
theorem ql9:ParX Sx.start Sp.start:=
 ⟨qox,fun q=>(by revert q;decide),fun _=>rfl,qli 0 1 0 (by decide) (by decide)⟩
theorem qpe(l:List UInt8):∀(x:Sx) (p:Sp),SxOk x->ParX x p->ParX (qav x l) (qda p l):=by
 induction l with
 |nil=>intro x p _ h;exact h
 |cons b l ih=>intro x p ha h;exact ih _ _ (qkh b ha) (qo0 x p b ha h)
structure Vw where
 mode:Int
 elem:Int
 attr:Int
 ends:Int
 esc:Int
 pct:Int
 link:Int
 name:List UInt8
 ref:Bool
def qbt(n:List UInt8):Int:=if n=qcw\/[111,110] <+: n then 3 else if n=[104,114,101,102]\/n=[115,114,99]\/n=[97,99,116,105,111,110]then 2 else 1
theorem qmd(n:List UInt8):qbt n=qcx n+1:=by
 unfold qbt;have ha:([111,110]:List UInt8).isPrefixOf n=true↔[111,110] <+: n:=List.isPrefixOf_iff_prefix;by_cases h0:n=[104,114,101,102]
 ·subst h0;rfl
 by_cases h1:n=[115,114,99]
 ·subst h1;rfl
 by_cases h2:n=[97,99,116,105,111,110]
 ·subst h2;rfl
 have f0:qbb n ([104,114,101,102],false,1)=false:=by unfold qbb;rw[Bool.false_and,Bool.or_false,beq_eq_false_iff_ne];exact fun q=>h0 q.symm
 have f1:qbb n ([115,114,99],false,1)=false:=by unfold qbb;rw[Bool.false_and,Bool.or_false,beq_eq_false_iff_ne];exact fun q=>h1 q.symm
 have f2:qbb n ([97,99,116,105,111,110],false,1)=false:=by unfold qbb;rw[Bool.false_and,Bool.or_false,beq_eq_false_iff_ne];exact fun q=>h2 q.symm
 have Ha:¬(n=[104,114,101,102]\/n=[115,114,99]\/n=[97,99,116,105,111,110]):=by
  rintro(q|q|q)
  ·exact h0 q
  ·exact h1 q
  ·exact h2 q
 rw[if_neg Ha];unfold qcx qdv;rw[List.find?_cons,f0,List.find?_cons,f1,List.find?_cons,f2,List.find?_cons];by_cases h3:n=qcw
 ·have f3:qbb n (qcw,false,2)=true:=by unfold qbb;rw[h3];rfl
  rw[f3,if_pos (.inl h3)];rfl
 ·have f3:qbb n (qcw,false,2)=false:=by unfold qbb;rw[Bool.false_and,Bool.or_false,beq_eq_false_iff_ne];exact fun q=>h3 q.symm
  rw[f3,List.find?_cons];by_cases h4:[111,110] <+: n
  ·have f4:qbb n ([111,110],true,2)=true:=by unfold qbb;rw[Bool.true_and,ha.2 h4,Bool.or_true]
   rw[f4,if_pos (.inr h4)];rfl
  ·have f4:qbb n ([111,110],true,2)=false:=by
    unfold qbb;rw[Bool.true_and,Bool.eq_false_iff.2 (fun q=>h4 (ha.1 q)),Bool.or_false,beq_eq_false_iff_ne];rintro rfl;exact h4 (List.prefix_refl _)
   rw[f4,List.find?_nil,if_neg (fun q=>q.elim h3 h4)];rfl
def ql2(m:Int):Bool:=m==1 || (m==19 || (m==8 || m==9))
def Sp.view(p:Sp):Vw where
 mode:=p.mode
 elem:=if(3<p.mode/\p.mode<=10)\/19<=p.mode then qco p.tag else 0
 attr:=if 6<=p.mode/\p.mode<=9 then qbt p.attr else 0
 ends:=if 19<=p.mode then p.read else 0
 esc:=if qb8 p.mode=true then qd1 (qbe p.mode) p.run else 0
 pct:=if(p.mode=8\/p.mode=9)/\qbt p.attr=2 then qha p.run else 0
 link:=if(p.mode=8\/p.mode=9)/\qbt p.attr=2 then p.far else 0
 name:=if p.mode=3 then p.tag else if p.mode=5 then p.attr else[]
 ref:=if ql2 p.mode=true then qhv p.run else false
def Sx.view(x:Sx):Vw where
 mode:=x.st.mode
 elem:=qco x.st.elem
 attr:=if 6<=x.st.mode/\x.st.mode<=9 then x.st.kind+1 else 0
 ends:=x.st.read
 esc:=if x.st.esc=true then 1 else if x.ma.hex=0 then 0 else x.ma.hex+1
 pct:=x.ma.pct
 link:=if qba x.st.kind x.st.mode=true then qjd x.ma.far else 0
 name:=x.st.name
 ref:=x.ma.ref
theorem qnm(n:List UInt8):qco (qax n)=qco n:=by
 unfold qax;split
 ·rfl
 ·next h=>
  simp only[not_or]at h;unfold qco;rw[if_neg h.1,if_neg h.2.1,if_neg h.2.2.1,if_neg h.2.2.2];rfl
theorem qz8:∀m:Nat,m<=33->ql2 (m:Int)=decide (qat m=1):=by decide
theorem qc8(x:Sx)(p:Sp)(hb:SxOk x)(h:ParX x p):p.view=x.view:=by
 have hm:=h.par.mode;have hs:=hb.st;have Hb:=hs.hi;have ha:=hs.bare;unfold Sp.view Sx.view;rw[hm];have c1:(if(3<(x.st.mode:Int)/\(x.st.mode:Int)<=10)\/19<=(x.st.mode:Int)then(qco p.tag:Int)else 0)=qco x.st.elem:=by
  by_cases q:4<=x.st.mode/\x.st.mode<=10
  ·rw[if_pos (by omega),<-h.par.inTag q.1 q.2,qnm]
  ·by_cases q':19<=x.st.mode
   ·rw[if_pos (by omega),h.par.tag q']
   ·rw[if_neg (by omega),(ha (by omega)).1];rfl
 have c2:(if 6<=(x.st.mode:Int)/\(x.st.mode:Int)<=9 then qbt p.attr else 0)=if 6<=x.st.mode/\x.st.mode<=9 then x.st.kind+1 else 0:=by
  by_cases q:6<=x.st.mode/\x.st.mode<=9
  ·rw[if_pos (by omega),if_pos q,h.kind q.1 q.2,qmd]
  ·rw[if_neg (by omega),if_neg q]
 have c3:(if 19<=(x.st.mode:Int)then(p.read:Int)else 0)=x.st.read:=by
  by_cases q:19<=x.st.mode
  ·rw[if_pos (by omega),h.par.read q]
  ·rw[if_neg (by omega),hs.low (by omega)];rfl
 have c4:(if qb8 (x.st.mode:Int)=true then qd1 (qbe x.st.mode) p.run else 0)=if x.st.esc=true then 1 else if x.ma.hex=0 then 0 else x.ma.hex+1:=by
  by_cases q:qb8 (x.st.mode:Int)=true
  ·rw[if_pos q];exact(h.ma.str q).symm
  ·obtain⟨q1,q2⟩:=h.ma.nostr (Bool.eq_false_iff.2 q)
   rw[if_neg q,q1,q2];rfl
 have Ha:(((x.st.mode:Int)=8\/(x.st.mode:Int)=9)/\qbt p.attr=2)↔qba x.st.kind x.st.mode=true:=by
  unfold qba;rw[Bool.and_eq_true,Bool.or_eq_true,beq_iff_eq,beq_iff_eq,beq_iff_eq];constructor
  ·rintro⟨a,c⟩
   rw[qmd,<-h.kind (by omega) (by omega)]at c;exact⟨by omega,by omega⟩
  ·rintro⟨a,c⟩
   rw[qmd,<-h.kind (by omega) (by omega)];exact⟨by omega,by omega⟩
 have c5:(if((x.st.mode:Int)=8\/(x.st.mode:Int)=9)/\qbt p.attr=2 then qha p.run else 0)=x.ma.pct:=by
  by_cases q:qba x.st.kind x.st.mode=true
  ·rw[if_pos (Ha.2 q)];exact(h.ma.link q).1.symm
  ·rw[if_neg (fun z=>q (Ha.1 z))];exact(h.ma.nolink (Bool.eq_false_iff.2 q)).1.symm
 have c6:(if((x.st.mode:Int)=8\/(x.st.mode:Int)=9)/\qbt p.attr=2 then p.far else 0)=if qba x.st.kind x.st.mode=true then qjd x.ma.far else 0:=by
  by_cases q:qba x.st.kind x.st.mode=true
  ·rw[if_pos (Ha.2 q),if_pos q];exact(h.ma.link q).2.1.symm
  ·rw[if_neg (fun z=>q (Ha.1 z)),if_neg q]
 have c7:(if(x.st.mode:Int)=3 then p.tag else if(x.st.mode:Int)=5 then p.attr else[])=x.st.name:=by
  by_cases q:x.st.mode=3
  ·rw[if_pos (by omega),h.par.tagName q]
  ·by_cases q':x.st.mode=5
   ·rw[if_neg (by omega),if_pos (by omega),h.par.attrName q']
   ·rw[if_neg (by omega),if_neg (by omega),hs.named q q']
 have c8:(if ql2 (x.st.mode:Int)=true then qhv p.run else false)=x.ma.ref:=by
  rw[qz8 _ Hb,h.ma.ref];cases decide (qat x.st.mode=1)<;>rfl
 rw[c1,c2,c3,c4,c5,c6,c7,c8]
def qrn(x:Sx):Prop:=x.st.esc=true->x.ma.hex=0
theorem qs3(x:Sx)(b:UInt8)(ha:SxOk x):qrn (x.behind b):=by
 have hs:=ha.st;by_cases he:19<=x.st.mode/\x.st.ends b=true
 ·rw[qzy x b he.1 he.2];intro q;cases q
 ·cases hq:(qa3.getD x.st.mode false && (x.st.esc || b==92))
  ·rw[qpo x b _ _ he hq rfl rfl]
   have hz:x.st.esc=false:=by
    by_cases q:qa3.getD x.st.mode false=true
    ·rw[q,Bool.true_and,Bool.or_eq_false_iff]at hq
     exact hq.1
    ·exact hs.calm (Bool.eq_false_iff.2 q)
   intro q;exfalso
   replace q:((St.mk (qbw x.st.mode b) x.st.name x.st.elem x.st.kind (x.st.nowRead b) x.st.esc).led (qde x.st.mode b) b).esc=true:=q
   by_cases c:qde x.st.mode b=34
   ·rw[c]at q
    unfold St.led at q;split at q
    ·rw[show ∀s:St,s.led1 34 b=qcg s.elem from fun _=>rfl,(qn6 _).2.1]at q;cases q
    ·rw[show ∀s:St,s.led1 34 b=qcg s.elem from fun _=>rfl,(qn6 _).2.1]at q;cases q
   ·rw[(q6k _ _ b c).2.2.2.1]at q
    simp only at q;rw[hz]at q;cases q
  ·rw[qvs x b he hq]
   intro q
   replace q:(!x.st.esc)=true:=q
   show(qa7 x.st.mode x.st.esc b).hex=0
   have:x.st.esc=false:=by cases h:x.st.esc with
    |false=>rfl
    |true=>rw[h]at q;cases q
   rw[this];rfl
theorem qmj{n n':List UInt8}(h:qiw n)(h':qiw n')(q:qco n=qco n'):n=n':=by
 rcases h with rfl|rfl|rfl|rfl|rfl<;>rcases h' with rfl|rfl|rfl|rfl|rfl<;>first|rfl|(exfalso;revert q;decide)
theorem q5j(x y:Sx)(p q:Sp)(hx:SxOk x)(hy:SxOk y)(ex:qrn x)(ey:qrn y)(px:ParX x p)(py:ParX y q)(h:x.view=y.view):x=y:=by
 have hm:x.st.mode=y.st.mode:=by
  have:=congrArg Vw.mode h;show _=_;have z:(x.st.mode:Int)=(y.st.mode:Int):=this;omega
 have he:x.st.elem=y.st.elem:=by
  have z:(qco x.st.elem:Int)=(qco y.st.elem:Int):=congrArg Vw.elem h;exact qmj hx.st.elem hy.st.elem (by omega)
 have hn:x.st.name=y.st.name:=congrArg Vw.name h;have hr:x.st.read=y.st.read:=by
  have z:(x.st.read:Int)=(y.st.read:Int):=congrArg Vw.ends h;omega
 have hk:x.st.kind=y.st.kind:=by
  have z:(if 6<=x.st.mode/\x.st.mode<=9 then x.st.kind+1 else 0)=(if 6<=y.st.mode/\y.st.mode<=9 then y.st.kind+1 else 0):=congrArg Vw.attr h;by_cases c:6<=x.st.mode/\x.st.mode<=9
  ·rw[if_pos c,if_pos (by rw[<-hm];exact c)]at z;omega
  ·rw[px.plain c,py.plain (by rw[<-hm];exact c)]
 have ha:x.ma.ref=y.ma.ref:=congrArg Vw.ref h;have Ha:x.ma.pct=y.ma.pct:=congrArg Vw.pct h;have hb:x.ma.far=y.ma.far:=by
  have z:(if qba x.st.kind x.st.mode=true then qjd x.ma.far else 0)=(if qba y.st.kind y.st.mode=true then qjd y.ma.far else 0):=congrArg Vw.link h;rw[<-hk,<-hm]at z;by_cases c:qba x.st.kind x.st.mode=true
  ·rw[if_pos c,if_pos c]at z
   obtain⟨_,_,a1,a2⟩:=px.ma.link c;obtain⟨_,_,b1,b2⟩:=py.ma.link (by rw[<-hk,<-hm];exact c);unfold qjd at z
   repeat' split at z
   all_goals omega
  ·rw[(px.ma.nolink (Bool.eq_false_iff.2 c)).2,(py.ma.nolink (by rw[<-hk,<-hm];exact Bool.eq_false_iff.2 c)).2]
 have Hb:x.st.esc=y.st.esc/\x.ma.hex=y.ma.hex:=by
  have z:(if x.st.esc=true then(1:Int)else if x.ma.hex=0 then 0 else x.ma.hex+1)=(if y.st.esc=true then(1:Int)else if y.ma.hex=0 then 0 else y.ma.hex+1):=congrArg Vw.esc h;have x0:=px.ma.hex;have y0:=py.ma.hex;cases a:x.st.esc<;>cases c:y.st.esc
  ·rw[a,c]at z
   replace z:(if x.ma.hex=0 then(0:Int)else x.ma.hex+1)=(if y.ma.hex=0 then(0:Int)else y.ma.hex+1):=z
   refine⟨rfl,?_⟩;by_cases c1:x.ma.hex=0<;>by_cases c2:y.ma.hex=0
   ·omega
   ·rw[if_pos c1,if_neg c2]at z;omega
   ·rw[if_neg c1,if_pos c2]at z;omega
   ·rw[if_neg c1,if_neg c2]at z;omega
  ·rw[a,c]at z
   replace z:(if x.ma.hex=0 then(0:Int)else x.ma.hex+1)=1:=z
   exfalso;by_cases c1:x.ma.hex=0
   ·rw[if_pos c1]at z;omega
   ·rw[if_neg c1]at z;omega
  ·rw[a,c]at z
   replace z:(1:Int)=(if y.ma.hex=0 then(0:Int)else y.ma.hex+1):=z
   exfalso;by_cases c1:y.ma.hex=0
   ·rw[if_pos c1]at z;omega
   ·rw[if_neg c1]at z;omega
  ·exact⟨rfl,by rw[ex a,ey c]⟩
 obtain⟨⟨m,n,e,k,r,z⟩,⟨rf,Hc,pc,fr⟩⟩:=x;obtain⟨⟨m',n',e',k',r',z'⟩,⟨rf',hc,pc',fr'⟩⟩:=y;simp only at hm he hn hr hk ha Ha hb Hb;obtain⟨h1,h2⟩:=Hb;subst hm he hn hr hk ha Ha hb h1 h2;rfl
def Sx.halfway(x:Sx):Bool:=x.ma.ref || (x.st.esc || (decide (0<x.ma.hex) || (decide (0<x.ma.pct) || decide (0<x.st.read))))
def Sx.hole(x:Sx):Int×Int:=
 if qat x.st.mode=0 then(0,10)else if x.st.kind=2 then(0,11)else if x.halfway=true then(0,12)
 else if qba x.st.kind x.st.mode=true/\x.ma.far=0 then(2,0)else if qba x.st.kind x.st.mode=true then(3,0)else(qat x.st.mode,0)
def Sx.behindHole(x:Sx):Sx:=if qba x.st.kind x.st.mode=true/\x.ma.far<2 then⟨x.st,⟨x.ma.ref,x.ma.hex,x.ma.pct,2⟩⟩else x
def Vw.as(v:Vw):Int:=
 if v.mode=1\/v.mode=19 then 1 else if v.mode=8\/v.mode=9 then(if v.link=2 then 2 else if v.attr=2 then 3 else 1)else if v.mode=21\/v.mode=22 then 4 else if v.mode=29\/v.mode=30 then 5 else 0
def Vw.hole(v:Vw):Int×Int:=if v.as=0 then(0,10)else if v.attr=3 then(0,11)else if(v.ref || (decide (0<v.esc) || (decide (0<v.pct) || decide (0<v.ends))))=true then(0,12)else(v.as,0)
def Sp.behindHole(p:Sp):Sp:=if p.view.link=2\/p.view.link=3 then⟨p.mode,p.tag,p.attr,p.inside,p.run,4⟩else p
theorem qo5(x:Sx)(p:Sp)(h:ParX x p):(x.view.link=2↔qba x.st.kind x.st.mode=true/\x.ma.far=0)/\(x.view.link=3↔qba x.st.kind x.st.mode=true/\x.ma.far=1)/\(x.view.link=4↔qba x.st.kind x.st.mode=true/\x.ma.far=2):=by
 have e:x.view.link=if qba x.st.kind x.st.mode=true then qjd x.ma.far else 0:=rfl;rw[e];by_cases c:qba x.st.kind x.st.mode=true
 ·obtain⟨_,_,a,b⟩:=h.ma.link c
  rw[if_pos c];unfold qjd;have:x.ma.far=0\/x.ma.far=1\/x.ma.far=2\/x.ma.far=3:=by omega
  rcases this with q|q|q|q<;>rw[q]<;>simp[c]
 ·rw[if_neg c]
  refine⟨⟨fun q=>by omega,fun q=>absurd q.1 c⟩,⟨fun q=>by omega,fun q=>absurd q.1 c⟩,⟨fun q=>by omega,fun q=>absurd q.1 c⟩⟩
theorem q4a(x:Sx)(p:Sp)(h:ParX x p):x.view.hole=x.hole:=by
 have hm:x.view.mode=(x.st.mode:Int):=rfl;have ha:x.view.attr=if 6<=x.st.mode/\x.st.mode<=9 then x.st.kind+1 else 0:=rfl;obtain⟨l2,_,_⟩:=qo5 x p h;have Hc:qba x.st.kind x.st.mode=true↔(x.st.mode=8\/x.st.mode=9)/\x.st.kind=1:=by
  refine⟨qdf,fun q=>?_⟩;unfold qba;rw[Bool.and_eq_true,Bool.or_eq_true,beq_iff_eq,beq_iff_eq,beq_iff_eq];exact⟨q.2,q.1⟩
 have hw:qat x.st.mode=if x.st.mode=1\/x.st.mode=19\/x.st.mode=8\/x.st.mode=9 then 1 else if x.st.mode=21\/x.st.mode=22 then 4 else if x.st.mode=29\/x.st.mode=30 then 5 else 0:=rfl;have He:x.view.as=if qba x.st.kind x.st.mode=true/\x.ma.far=0 then 2 else if qba x.st.kind x.st.mode=true then 3 else qat x.st.mode:=by
  have A:x.view.as=if((x.st.mode:Int)=1\/(x.st.mode:Int)=19)then 1 else if((x.st.mode:Int)=8\/(x.st.mode:Int)=9)then(if x.view.link=2 then 2 else if x.view.attr=2 then 3 else 1)else if((x.st.mode:Int)=21\/(x.st.mode:Int)=22)then 4 else if((x.st.mode:Int)=29\/(x.st.mode:Int)=30)then 5 else 0:=rfl;rw[A,hw];by_cases c2:x.st.mode=8\/x.st.mode=9
  ·have p1:¬((x.st.mode:Int)=1\/(x.st.mode:Int)=19):=by omega
   have p2:(x.st.mode:Int)=8\/(x.st.mode:Int)=9:=by omega
   have p3:x.st.mode=1\/x.st.mode=19\/x.st.mode=8\/x.st.mode=9:=by omega
   have p4:6<=x.st.mode/\x.st.mode<=9:=by omega
   rw[if_neg p1,if_pos p2,if_pos p3,ha,if_pos p4];by_cases c3:qba x.st.kind x.st.mode=true/\x.ma.far=0
   ·rw[if_pos (l2.2 c3),if_pos c3]
   ·rw[if_neg (fun q=>c3 (l2.1 q)),if_neg c3]
    by_cases c4:qba x.st.kind x.st.mode=true
    ·have:x.st.kind+1=2:=by have:=(Hc.1 c4).2;omega
     rw[if_pos this,if_pos c4]
    ·have:¬x.st.kind+1=2:=fun q=>c4 (Hc.2 ⟨c2,by omega⟩)
     rw[if_neg this,if_neg c4]
  ·have n:¬qba x.st.kind x.st.mode=true:=fun q=>c2 (Hc.1 q).1
   have n':¬(qba x.st.kind x.st.mode=true/\x.ma.far=0):=fun q=>n q.1;rw[if_neg n',if_neg n];by_cases c1:x.st.mode=1\/x.st.mode=19
   ·have p1:(x.st.mode:Int)=1\/(x.st.mode:Int)=19:=by omega
    have p3:x.st.mode=1\/x.st.mode=19\/x.st.mode=8\/x.st.mode=9:=by omega
    rw[if_pos p1,if_pos p3]
   ·have p1:¬((x.st.mode:Int)=1\/(x.st.mode:Int)=19):=by omega
    have p2:¬((x.st.mode:Int)=8\/(x.st.mode:Int)=9):=by omega
    have p3:¬(x.st.mode=1\/x.st.mode=19\/x.st.mode=8\/x.st.mode=9):=by omega
    rw[if_neg p1,if_neg p2,if_neg p3];by_cases c4:x.st.mode=21\/x.st.mode=22
    ·have p5:(x.st.mode:Int)=21\/(x.st.mode:Int)=22:=by omega
     rw[if_pos p5,if_pos c4]
    ·have p5:¬((x.st.mode:Int)=21\/(x.st.mode:Int)=22):=by omega
     rw[if_neg p5,if_neg c4];by_cases c5:x.st.mode=29\/x.st.mode=30
     ·have p6:(x.st.mode:Int)=29\/(x.st.mode:Int)=30:=by omega
      rw[if_pos p6,if_pos c5]
     ·have p6:¬((x.st.mode:Int)=29\/(x.st.mode:Int)=30):=by omega
      rw[if_neg p6,if_neg c5]
 have hb:x.view.as=0↔qat x.st.mode=0:=by
  rw[He];by_cases c:qba x.st.kind x.st.mode=true
  ·have:qat x.st.mode=1:=by rcases(Hc.1 c).1 with q|q<;>rw[q]<;>rfl
   rw[this];by_cases c':qba x.st.kind x.st.mode=true/\x.ma.far=0
   ·rw[if_pos c'];omega
   ·rw[if_neg c',if_pos c];omega
  ·rw[if_neg (fun q=>c q.1),if_neg c]
 have he:decide (0<x.view.esc)=(x.st.esc || decide (0<x.ma.hex)):=by
  have e:x.view.esc=if x.st.esc=true then 1 else if x.ma.hex=0 then 0 else x.ma.hex+1:=rfl;have h0:=h.ma.hex;rw[e];cases x.st.esc
  ·rw[if_neg (by simp),Bool.false_or]
   by_cases c:x.ma.hex=0
   ·rw[if_pos c,c]
   ·rw[if_neg c,decide_eq_true (by omega),decide_eq_true (by omega)]
  ·rw[if_pos rfl];rfl
 have Hb:decide (0<x.view.ends)=decide (0<x.st.read):=by
  have e:x.view.ends=(x.st.read:Int):=rfl;rw[e,decide_eq_decide];omega
 have hc:(x.view.ref || (decide (0<x.view.esc) || (decide (0<x.view.pct) || decide (0<x.view.ends))))=x.halfway:=by
  unfold Sx.halfway;rw[he,Hb,show x.view.ref=x.ma.ref from rfl,show x.view.pct=x.ma.pct from rfl,Bool.or_assoc]
 unfold Vw.hole Sx.hole;rw[hc];by_cases c:qat x.st.mode=0
 ·rw[if_pos (hb.2 c),if_pos c]
 ·rw[if_neg (fun q=>c (hb.1 q)),if_neg c]
  have Ha:x.view.attr=3↔x.st.kind=2:=by
   rw[ha];by_cases q:6<=x.st.mode/\x.st.mode<=9
   ·rw[if_pos q];omega
   ·rw[if_neg q,h.plain q];omega
  by_cases c2:x.st.kind=2
  ·rw[if_pos (Ha.2 c2),if_pos c2]
  ·rw[if_neg (fun q=>c2 (Ha.1 q)),if_neg c2]
   by_cases c3:x.halfway=true
   ·rw[if_pos c3,if_pos c3]
   ·rw[if_neg c3,if_neg c3,He]
    split
    ·rfl
    ·split
     ·rfl
     ·rfl
theorem q4b(x:Sx)(p:Sp)(ha:SxOk x)(h:ParX x p):p.view.hole=x.hole:=by rw[qc8 x p ha h,q4a x p h]
theorem qfl(x:Sx)(p:Sp)(ha:SxOk x)(h:ParX x p):ParX x.behindHole p.behindHole:=by
 obtain⟨l2,l3,_⟩:=qo5 x p h;unfold Sx.behindHole Sp.behindHole;rw[qc8 x p ha h];by_cases c:qba x.st.kind x.st.mode=true
 ·obtain⟨a1,a2,a3,a4⟩:=h.ma.link c
  by_cases f:x.ma.far<2
  ·have hv:x.view.link=2\/x.view.link=3:=by
    by_cases z:x.ma.far=0
    ·exact .inl (l2.2 ⟨c,z⟩)
    ·exact .inr (l3.2 ⟨c,by omega⟩)
   rw[if_pos ⟨c,f⟩,if_pos hv];refine⟨⟨h.par.mode,h.par.tagName,h.par.attrName,h.par.inTag,h.par.tag,h.par.read,h.par.esc⟩,h.kind,h.plain,?_⟩;exact⟨h.ma.ref,h.ma.hex,h.ma.str,h.ma.nostr,fun _=>⟨a1,rfl,(by show(0:Int)<=2;omega),(by show(2:Int)<=3;omega)⟩,fun q=>by rw[c]at q;cases q⟩
  ·have hv:¬(x.view.link=2\/x.view.link=3):=by
    rintro(q|q)
    ·have:=(l2.1 q).2;omega
    ·have:=(l3.1 q).2;omega
   rw[if_neg (fun q=>f q.2),if_neg hv];exact h
 ·have hv:¬(x.view.link=2\/x.view.link=3):=by
   rintro(q|q)
   ·exact c (l2.1 q).1
   ·exact c (l3.1 q).1
  rw[if_neg (fun q=>c q.1),if_neg hv];exact h
theorem qis(x:Sx)(h:SxOk x):SxOk x.behindHole:=by
 unfold Sx.behindHole;split
 ·exact⟨h.st,⟨h.ma.hex,h.ma.pct⟩⟩
 ·exact h
theorem qp7(x:Sx)(h:qrn x):qrn x.behindHole:=by
 unfold Sx.behindHole;split
 ·exact h
 ·exact h
theorem qwv(x:Sx)(p:Sp)(b:UInt8)(ha:SxOk x)(h:ParX x p):qbv x.st.kind x.st.mode x.ma.far b=(b==58 && decide (p.view.link=4)):=by
 obtain⟨_,_,l4⟩:=qo5 x p h;rw[qc8 x p ha h];unfold qbv
 congr 1
 rw[Bool.eq_iff_iff,Bool.and_eq_true,beq_iff_eq,decide_eq_true_eq];exact l4.symm
deriving instance DecidableEq for St,Mk,Sx
structure Src where
 name:List UInt8
 parts:List Pt
abbrev En:=Nat×Sx
structure Ft where
 code:Nat
 kind:Int
 place:List UInt8
 pos:Nat
def Ft.none:Ft:=⟨0,0,[],0⟩
structure Sr where
 ends:List (En×Sx)
 nums:List (En×Nat)
 vis:List (Nat×List Int)
 fault:Ft
def Sx.none:Sx:=⟨⟨0,[],[],0,0,false⟩,Mk.none⟩
def Sx.isNone(x:Sx):Bool:=x.st.mode==0
def qa1{α:Type}:List (En×α)->En->Option α
 |[],_=>Option.none
 |(k,v)::l,e=>if k=e then some v else qa1 l e
def qa5{α:Type}:List (En×α)->En->α->List (En×α)
 |[],e,v=>[(e,v)]
 |(k,u)::l,e,v=>if k=e then(e,v)::l else(k,u)::qa5 l e v
def qfu(n:List UInt8):Nat->List Src->Nat
 |_,[]=>0
 |i,s::l=>if s.name=n then i else qfu n (i+1) l
def qai(S:List Src)(n:List UInt8):Nat:=qfu n 1 (S.drop 1)
def qab(S:List Src)(i:Nat):List Pt:=match S[i]? with
 |some s=>s.parts
 |Option.none=>[]
def qen(S:List Src)(i:Nat):List UInt8:=match S[i]? with
 |some s=>s.name
 |Option.none=>[]
def qdh(beh:Sr->List UInt8->Sx->Sr×Sx)(P:List Pt):Nat->Nat->Sr->Sx->Sr×Sx
 |0,_,s,x=>(s,x)
 |n+1,a,s,x=>
   if x.isNone=true then(s,x)else
   match P[a]? with
   |Option.none=>(s,x)
   |some p=>
     if p.kind=1 then qdh beh P n (a+1) s (qav x p.text)
     else if p.kind=2 then qdh beh P n (a+1) s x.behindHole
     else if p.kind=3\/p.kind=4 then qdh beh P n (p.mate+1) s x
     else if p.kind=6 then qdh beh P n (a+1) (beh s p.text x).1 (beh s p.text x).2
     else qdh beh P n (a+1) s x
def qq6:Ft:=⟨3,0,[],0⟩
def behV(S:List Src):Nat->Sr->List UInt8->Sx->Sr×Sx
 |0,s,_,x=>(s,x)
 |k+1,s,n,x=>
   if qai S n=0 then(s,x)else
   match qa1 s.ends (qai S n,x)with
   |some e=>(s,e)
   |Option.none=>
     if s.ends.length=256 then({ s with fault:=qq6 },Sx.none)else
     let P:=qab S (qai S n)
     let r:=qdh (behV S k) P (P.length+1) 0 { s with ends:=qa5 s.ends (qai S n,x) Sx.none } x
     ({ r.1 with ends:=qa5 r.1.ends (qai S n,x) r.2 },r.2)
def qbj:Sx->List UInt8->Option Nat
 |_,[]=>Option.none
 |x,b::l=>if qbv x.st.kind x.st.mode x.ma.far b=true then some 0 else(qbj (x.behind b) l).map (·+ 1)
def Sr.wrong(s:Sr)(S:List Src)(i:Nat)(kind:Int)(pos:Nat):Sr:={ s with fault:=⟨3,kind,qen S i,pos⟩ }
def Sr.mark(s:Sr)(v a:Nat)(m:Int):Sr:={ s with vis:=s.vis.modify v fun x=>(x.1,x.2.set a m) }
def qg1(s:Sr)(e:En):Nat:=(qa1 s.nums e).getD 0
def goV(nm:Sr->List UInt8->Sx->Sr×Nat×Sx)(S:List Src)(i v:Nat)(P:List Pt):Nat->Nat->Sr->Sx->List (Sx×Nat)->Sr
 |0,_,s,_,_=>s
 |n+1,a,s,x,B=>
   match P[a]? with
   |Option.none=>s
   |some p=>
     if p.kind=1 then
      (match qbj x p.text with
       |some j=>s.wrong S i 14 (p.pos+j)
       |Option.none=>goV nm S i v P n (a+1) s (qav x p.text) B)
     else if p.kind=2 then
      (if x.hole.2≠0 then s.wrong S i x.hole.2 p.pos else goV nm S i v P n (a+1) (s.mark v a x.hole.1) x.behindHole B)
     else if p.kind=3\/p.kind=4 then goV nm S i v P n (a+1) s x (B++[(x,p.mate)])
     else if p.kind=5 then
      (match B.getLast? with
       |Option.none=>s
       |some b=>if x≠b.1 then s.wrong S i 13 (qi4 P p.mate)else goV nm S i v P n (a+1) s x B.dropLast)
     else if p.kind=6 then
      let r:=nm s p.text x
      let s1:=r.1.mark v a r.2.1
      if s1.fault.code≠0\/(r.2.2.isNone=true/\B=[])then s1
      else if r.2.2.isNone=false then goV nm S i v P n (a+1) s1 r.2.2 B
      else(match B.getLast? with
       |Option.none=>s1
       |some b=>goV nm S i v P n b.2 s1 b.1 B)
     else goV nm S i v P n (a+1) s x B
def qfs(S:List Src):Nat->Sr->En->Sr
 |0,s,_=>s
 |k+1,s,e=>
   let P:=qab S e.1
   let nm:=fun(s:Sr) (n:List UInt8) (x:Sx)=>
    let r:=behV S 257 s n x
    if qai S n=0\/r.1.fault.code≠0 then(r.1,0,r.2)
    else if qg1 r.1 (qai S n,x)=0 then
     (qfs S k r.1 (qai S n,x),qg1 (qfs S k r.1 (qai S n,x)) (qai S n,x),r.2)
    else(r.1,qg1 r.1 (qai S n,x),r.2)
   goV nm S e.1 s.vis.length P (P.length+1) 0 { s with nums:=qa5 s.nums e s.vis.length,vis:=s.vis++[(e.1,List.replicate P.length 0)] } e.2 []
def qef(S:List Src)(len:Nat):List (Nat×List Int)×Ft:=
 let s:=qfs S 258 ⟨[],[],[],Ft.none⟩ (0,Sx.start)
 if s.fault.code≠0 then([],s.fault)else
 let P:=qab S 0
 let r:=qdh (behV S 257) P (P.length+1) 0 s Sx.start
 if r.2.isNone=false/\r.2≠Sx.start then([],⟨3,15,qen S 0,len⟩)
 else if r.1.fault.code≠0 then([],r.1.fault)else(r.1.vis,Ft.none)
def qg7:List (List UInt8)->Bool
 |[]=>true
 |n::l=>qa6 n && (!l.contains n && qg7 l)
def qa4:List (List UInt8×List UInt8)->Ft×List Src
 |[]=>(Ft.none,[])
 |(n,t)::l=>if(qam t).1.1≠0 then(⟨2,(qam t).1.1,n,(qam t).1.2⟩,[])
   else if(qa4 l).1.code≠0 then((qa4 l).1,[])else(Ft.none,⟨n,(qam t).2⟩::(qa4 l).2)
def qe9(t:List UInt8)(L:List (List UInt8×List UInt8)):(List (Nat×List Int)×List Src)×Ft:=
 if 6<L.length\/qg7 (L.map (·.1))=false then(([],[]),⟨1,0,[],0⟩)else
 if(qa4 (([],t)::L)).1.code≠0 then(([],[]),(qa4 (([],t)::L)).1)else
 if(qef (qa4 (([],t)::L)).2 t.length).2.code≠0 then(([],[]),(qef (qa4 (([],t)::L)).2 t.length).2)
 else(((qef (qa4 (([],t)::L)).2 t.length).1,(qa4 (([],t)::L)).2),Ft.none)
end Go.Proofs.YtfkhljmiehdgmaaGreatDoor.Pl
namespace Go.Proofs.YtfkhljmiehdgmaaGreatDoor
open Go.RowKit Go.Maps
def qf9(e:Pl.En):Value:=.agg (#[.int .i64 e.1]++(qaf e.2))
theorem qeh:Keyed Tryz.prog 180:=Keyed.of_law (deep_law (m:=4) (by decide) (by kernel_rfl) (by kernel_rfl) (by kernel_rfl))
theorem qmb:Keyed Tryz.prog 9:=string_keyed Tryz.underlying9
theorem qus(d:Nat)(n:Int)(h:(Lit.int .i64 n).wf=true):Tryz.prog.keyLits (d+1) 3 [.int .i64 n]=some [.int .i64 n]:=by
 unfold Program.keyLits;simp[Tryz.underlying3,h]
theorem q9h(d:Nat)(n:Int)(h:(Lit.int .u8 n).wf=true):Tryz.prog.keyLits (d+1) 158 [.int .u8 n]=some [.int .u8 n]:=by
 unfold Program.keyLits;simp[Tryz.underlying158,h]
theorem q32(d:Nat)(b:Bool):Tryz.prog.keyLits (d+1) 4 [.bool b]=some [.bool b]:=by
 unfold Program.keyLits;simp[Tryz.underlying4]
theorem q7z(d:Nat)(s:ByteArray)(h:s.size<=maxLen):Tryz.prog.keyLits (d+1) 9 [.string s]=some [.string s.data.toList]:=by
 unfold Program.keyLits;simp[Tryz.underlying9,h]
theorem qjh:Tryz.prog.cellsOf 3=1:=by kernel_rfl
theorem q1u:Tryz.prog.cellsOf 158=1:=by kernel_rfl
theorem qrf:Tryz.prog.cellsOf 4=1:=by kernel_rfl
theorem qvp:Tryz.prog.cellsOf 9=1:=by kernel_rfl
theorem qpm:Tryz.prog.cellsOf 160=5:=by kernel_rfl
theorem qkz:Tryz.prog.cellsOf 162=10:=by kernel_rfl
theorem qpn:Tryz.prog.cellsOf 180=11:=by kernel_rfl
theorem q80(d:Nat)(r e:Bool)(a b c:Int)(ha:(Lit.int .i64 a).wf=true)(hb:(Lit.int .i64 b).wf=true)(hc:(Lit.int .i64 c).wf=true):∃l,Tryz.prog.keyLits (d+2) 160 [.bool r,.bool e,.int .i64 a,.int .i64 b,.int .i64 c]=some l:=by
 unfold Program.keyLits;simp only[Tryz.underlying160];simp[qpm,qjh,qrf,qus,q32,ha,hb,hc]
theorem q20(d:Nat)(m:Int)(n e:ByteArray)(k rd:Int)(r es:Bool)(a b c:Int)(hm:(Lit.int .u8 m).wf=true)(hn:n.size<=maxLen)(he:e.size<=maxLen)(hk:(Lit.int .i64 k).wf=true)(hr:(Lit.int .i64 rd).wf=true)(ha:(Lit.int .i64 a).wf=true)(hb:(Lit.int .i64 b).wf=true)(hc:(Lit.int .i64 c).wf=true) :
  ∃l,Tryz.prog.keyLits (d+3) 162 [.int .u8 m,.string n,.string e,.int .i64 k,.int .i64 rd,.bool r,.bool es,.int .i64 a,.int .i64 b,.int .i64 c]=some l:=by
 obtain⟨l,hl⟩:=q80 d r es a b c ha hb hc;unfold Program.keyLits;simp only[Tryz.underlying162];simp[qkz,qpm,qjh,q1u,qvp,qus,q9h,q7z,hm,hn,he,hk,hr,hl]
theorem qwo{x:Pl.Sx}(h:Pl.SxOk x):(Lit.int .u8 x.st.mode).wf=true/\x.st.name.length<=9/\x.st.elem.length<=8/\(Lit.int .i64 x.st.kind).wf=true/\(Lit.int .i64 (x.st.read:Int)).wf=true/\(Lit.int .i64 x.ma.hex).wf=true/\(Lit.int .i64 x.ma.pct).wf=true:=by
 have h1:=h.st.hi;have h2:=h.st.name;have h3:=h.st.wrap;have h4:=h.st.read;have h5:=h.ma.hex;have h6:=h.ma.pct;have he:x.st.elem.length<=8:=by
  rcases h.st.elem with e|e|e|e|e<;>rw[e]<;>decide
 have hr:x.st.read<=10:=by
  have:x.st.ending.length=x.st.elem.length+2:=rfl;omega
 exact⟨WalkArith.wf_u8 (by omega),h2,he,WalkArith.wf_i64 (by omega),WalkArith.wf_i64 (by omega),WalkArith.wf_i64 (by omega),WalkArith.wf_i64 (by omega)⟩
theorem qrb{e:Pl.En}(h:Pl.SxOk e.2)(hf:0<=e.2.ma.far/\e.2.ma.far<=3)(hi:e.1<=6):∃l,keyOf Tryz.prog 180 (qf9 e)=some l:=by
 obtain⟨h1,h2,h3,h4,h5,h6,h7⟩:=qwo h;obtain⟨d,hs⟩:∃d,Tryz.prog.types.size+1=(d+3)+1:=⟨Tryz.prog.types.size - 3,by
  have:4<=Tryz.prog.types.size:=by decide +kernel
  omega⟩
 obtain⟨l,hl⟩:=q20 d e.2.st.mode ⟨e.2.st.name.toArray⟩ ⟨e.2.st.elem.toArray⟩ e.2.st.kind e.2.st.read e.2.ma.ref e.2.st.esc e.2.ma.hex e.2.ma.pct e.2.ma.far h1 (by simp[ByteArray.size];unfold maxLen;omega) (by simp[ByteArray.size];unfold maxLen;omega) h4 h5 h6 h7 (WalkArith.wf_i64 (by omega));have hk:Tryz.prog.keyType 180=true:=by kernel_rfl
 have Ha:(qf9 e).formed Tryz.prog 180=true:=by
  unfold qf9 Value.formed;simp[Tryz.underlying180,qpn,qaf]
 unfold keyOf;simp only[Tryz.underlying180];rw[hk,Ha,hs];unfold Program.keyLits;simp only[Tryz.underlying180];have ha:(Lit.int .i64 (e.1:Int)).wf=true:=WalkArith.wf_i64 (by omega);unfold qf9 qaf bs;simp[Value.cells,qpn,qkz,qjh,qus,ha,hl]
end Go.Proofs.YtfkhljmiehdgmaaGreatDoor
namespace Go.Proofs.YtfkhljmiehdgmaaGreatDoor.Pl
variable{o:Nat}{l:List Pt}{x:Sx}
def qff(x:Sx)(B:List Sx)(p:Pt):Option (Sx×List Sx):=
 if p.kind=1 then(match qbj x p.text with
  |some _=>Option.none
  |Option.none=>some (qav x p.text,B))
 else if p.kind=2 then(if x.hole.2=0 then some (x.behindHole,B)else Option.none)
 else if p.kind=3\/p.kind=4 then some (x,B++[x])
 else if p.kind=5 then(match B.getLast? with
  |Option.none=>Option.none
  |some b=>if x=b then some (x,B.dropLast)else Option.none)
 else some (x,B)
def qeo:List Pt->Sx->List Sx->Option (Sx×List Sx)
 |[],x,B=>some (x,B)
 |p::l,x,B=>(qff x B p).bind fun y=>qeo l y.1 y.2
theorem qj4(l m:List Pt):∀(x:Sx) (B:List Sx),qeo (l++m) x B=(qeo l x B).bind fun y=>qeo m y.1 y.2:=by
 induction l with
 |nil=>intro x B;rfl
 |cons p l ih=>
   intro x B;show(qff x B p).bind _=((qff x B p).bind _).bind _;cases qff x B p with
   |none=>rfl
   |some y=>exact ih y.1 y.2
def deep:List Pt->Nat->Bool
 |[],_=>true
 |p::l,d=>if p.kind=3\/p.kind=4 then deep l (d+1)else if p.kind=5 then decide (d≠0) && deep l (d - 1)else deep l d
theorem q4u(h:Wf o l):∀(m:List Pt) (d:Nat),deep m d=true->deep (l++m) d=true:=by
 induction h with
 |nil o=>intro m d h;exact h
 |leaf o p l hk _ ih=>
   intro m d h;show deep (p::(l++m)) d=true;unfold deep;rw[if_neg (by omega),if_neg (by omega)];exact ih m d h
 |sec o p q b l hp hq h1 h2 hb _ ihb ihl=>
   intro m d h;have e:p::b++q::l++m=p::(b++(q::(l++m))):=by simp
   rw[e];unfold deep;rw[if_pos hp];refine ihb _ _ ?_;unfold deep;rw[if_neg (by omega),if_pos hq];simp only[ne_eq,Nat.add_eq_zero_iff,Nat.succ_ne_self,and_false,not_false_eq_true,decide_true,Bool.true_and,Nat.add_sub_cancel];exact ihl m d h
theorem qk5(h:Wf o l):∀p∈l,1<=p.kind/\p.kind<=6:=by
 induction h with
 |nil o=>intro p hp;cases hp
 |leaf o p l hk _ ih=>
   intro q hq;rcases List.mem_cons.1 hq with rfl|hq
   ·omega
   ·exact ih q hq
 |sec o p q b l hp hq h1 h2 hb _ ihb ihl=>
   intro r hr;simp only[List.cons_append,List.mem_cons,List.mem_append]at hr;rcases hr with rfl|hr|rfl|hr
   ·omega
   ·exact ihb r hr
   ·omega
   ·exact ihl r hr
theorem qoo{l:List UInt8}{j:Nat}(h:qbj x l=some j):j<l.length:=by
 induction l generalizing x j with
 |nil=>cases h
 |cons b l ih=>
   unfold qbj at h;split at h
   ·injection h with h;subst h;simp
   ·obtain⟨k,h1,rfl⟩:=Option.map_eq_some_iff.1 h
    have:=ih h1;simp;omega
structure Marks(s s':Sr):Prop where
 ends:s'.ends=s.ends
 nums:s'.nums=s.nums
 vis:s'.vis.length=s.vis.length
theorem Marks.refl(s:Sr):Marks s s:=⟨rfl,rfl,rfl⟩
theorem Marks.mark{s s':Sr}(h:Marks s s')(v a:Nat)(m:Int):Marks s (s'.mark v a m):=⟨h.ends,h.nums,by unfold Sr.mark;simp[h.vis]⟩
theorem q09(s:Sr)(v a:Nat)(m:Int):(s.mark v a m).fault=s.fault:=rfl
theorem qjv(h:SxOk x):x.isNone=false:=by
 have:=h.st.lo;unfold Sx.isNone;rw[beq_eq_false_iff_ne];omega
theorem qqf{B:List Sx}{p:Pt}{y:Sx×List Sx}(h:SxOk x)(hs:qff x B p=some y):SxOk y.1:=by
 unfold qff at hs;split at hs
 ·split at hs
  ·cases hs
  ·injection hs with hs;subst hs;exact qty _ _ h
 ·split at hs
  ·split at hs
   ·injection hs with hs;subst hs;exact qis _ h
   ·cases hs
  ·split at hs
   ·injection hs with hs;subst hs;exact h
   ·split at hs
    ·split at hs
     ·cases hs
     ·split at hs
      ·injection hs with hs;subst hs;exact h
      ·cases hs
    ·injection hs with hs;subst hs;exact h
theorem qvg{α:Type}{P:List α}{a:Nat}{p:α}(h:P[a]?=some p):P.drop a=p::P.drop (a+1):=by
 obtain⟨h1,h2⟩:=List.getElem?_eq_some_iff.1 h;rw[List.drop_eq_getElem_cons h1,h2]
theorem q0y(P:List Pt)(m:Nat)(hP:P≠[]):∃p∈P,qi4 P m=p.pos\/qi4 P m=0:=by
 unfold qi4;cases h:P[m]? with
 |none=>
   cases P with
   |nil=>exact absurd rfl hP
   |cons p l=>exact⟨p,by simp,.inr rfl⟩
 |some p=>exact⟨p,List.mem_of_getElem? h,.inl rfl⟩
def q7p(S:List Src)(i:Nat)(P:List Pt)(s0:Sr)(r:Option (Sx×List Sx))(s:Sr):Prop:=
 match r with
 |some _=>s.fault=s0.fault/\Marks s0 s
 |Option.none=>s.fault.code=3/\s.fault.place=qen S i/\(s.fault.pos=0\/∃p∈P,s.fault.pos=p.pos\/(p.kind=1/\s.fault.pos<p.pos+p.text.length))
theorem q6x(nm:Sr->List UInt8->Sx->Sr×Nat×Sx)(S:List Src)(i v:Nat)(P:List Pt)(hk:∀p∈P,1<=p.kind/\p.kind<=6)(Ha:∀p∈P,p.kind=6->∀s x,nm s p.text x=(s,0,x))(s0:Sr)(h0:s0.fault.code=0) :
  ∀(n a:Nat) (s:Sr) (x:Sx) (B:List (Sx×Nat)),P.length - a<n->deep (P.drop a) B.length=true->s.fault=s0.fault->Marks s0 s->SxOk x ->
  q7p S i P s0 (qeo (P.drop a) x (B.map (·.1))) (goV nm S i v P n a s x B):=by
 intro n
 induction n with
 |zero=>intro a s x B h;omega
 |succ n ih=>
   intro a s x B hn hd hf hm hx;unfold goV;cases hp:P[a]? with
   |none=>
     have:P.length<=a:=by simpa using hp
     rw[List.drop_eq_nil_of_le this];exact⟨hf,hm⟩
   |some p=>
     have hc:a<P.length:=(List.getElem?_eq_some_iff.1 hp).1;have ha:p∈P:=List.mem_of_getElem? hp;have Hc:=hk p ha;rw[qvg hp]at hd |-;show q7p S i P s0 ((qff x (B.map (·.1)) p).bind fun y=>qeo (P.drop (a+1)) y.1 y.2) _;unfold deep at hd;unfold qff;simp only;by_cases k1:p.kind=1
     ·rw[if_pos k1,if_pos k1]
      rw[if_neg (by omega),if_neg (by omega)]at hd;cases hs:qbj x p.text with
      |some j=>
        exact⟨rfl,rfl,.inr ⟨p,ha,.inr ⟨k1,by have:=qoo hs;show p.pos+j<_;omega⟩⟩⟩
      |none=>exact ih (a+1) s _ B (by omega) hd hf hm (qty _ _ hx)
     rw[if_neg k1,if_neg k1];by_cases k2:p.kind=2
     ·rw[if_pos k2,if_pos k2]
      rw[if_neg (by omega),if_neg (by omega)]at hd;by_cases hh:x.hole.2=0
      ·rw[if_pos hh,if_neg (fun q=>q hh)]
       exact ih (a+1) _ _ B (by omega) hd hf (hm.mark _ _ _) (qis _ hx)
      ·rw[if_neg hh,if_pos hh]
       exact⟨rfl,rfl,.inr ⟨p,ha,.inl rfl⟩⟩
     rw[if_neg k2,if_neg k2];by_cases k3:p.kind=3\/p.kind=4
     ·rw[if_pos k3,if_pos k3]
      rw[if_pos k3]at hd;have:=ih (a+1) s x (B++[(x,p.mate)]) (by omega) (by simpa using hd) hf hm hx;rw[List.map_append]at this;exact this
     rw[if_neg k3,if_neg k3];rw[if_neg k3]at hd;by_cases k5:p.kind=5
     ·rw[if_pos k5,if_pos k5]
      rw[if_pos k5]at hd;simp only[ne_eq,Bool.and_eq_true,decide_eq_true_eq]at hd;cases hB:B.getLast? with
      |none=>
        rw[List.getLast?_eq_none_iff]at hB;subst hB;exact absurd rfl hd.1
      |some b=>
        have Hb:(B.map (·.1)).getLast?=some b.1:=by rw[List.getLast?_map,hB];rfl
        simp only[Hb];by_cases hb:x=b.1
        ·rw[if_pos hb,if_neg (fun q=>q hb)]
         have:=ih (a+1) s x B.dropLast (by omega) (by simpa using hd.2) hf hm hx;rw[List.map_dropLast]at this;exact this
        ·rw[if_neg hb,if_pos hb]
         refine⟨rfl,rfl,?_⟩;obtain⟨q,hq,h|h⟩:=q0y P p.mate (fun e=>by rw[e]at ha;cases ha)
         ·exact .inr ⟨q,hq,.inl h⟩
         ·exact .inl h
     rw[if_neg k5,if_neg k5];have k6:p.kind=6:=by omega
     rw[if_pos k6,Ha p ha k6];rw[if_neg k5]at hd;simp only[qjv hx];rw[if_neg (by rw[q09,hf,h0];simp),if_pos trivial];exact ih (a+1) _ x B (by omega) hd hf (hm.mark _ _ _) hx
variable{o:Nat}{l:List Pt}
theorem q4h(h:Wf o l):∀(x:Sx) (B:List Sx) (y:Sx×List Sx),qeo l x B=some y->y.2=B:=by
 induction h with
 |nil o=>intro x B y h;injection h with h;subst h;rfl
 |leaf o p l hk _ ih=>
   intro x B y h;obtain⟨z,h1,h2⟩:=Option.bind_eq_some_iff.1 h;rw[ih _ _ _ h2];unfold qff at h1;split at h1
   ·split at h1
    ·cases h1
    ·injection h1 with h1;subst h1;rfl
   ·split at h1
    ·split at h1
     ·injection h1 with h1;subst h1;rfl
     ·cases h1
    ·rw[if_neg (by omega),if_neg (by omega)]at h1
     injection h1 with h1;subst h1;rfl
 |sec o p q b l hp hq h1 h2 hb _ ihb ihl=>
   intro x B y h;have e:p::b++q::l=p::(b++(q::l)):=by simp
   rw[e]at h;obtain⟨z,g1,g2⟩:=Option.bind_eq_some_iff.1 h;unfold qff at g1;rw[if_neg (by omega),if_neg (by omega),if_pos hp]at g1;injection g1 with g1;subst g1;rw[qj4]at g2;obtain⟨u,g3,g4⟩:=Option.bind_eq_some_iff.1 g2;have hu:=ihb _ _ _ g3;obtain⟨u1,u2⟩:=u;simp only at hu g4;subst hu;obtain⟨v,g5,g6⟩:=Option.bind_eq_some_iff.1 g4;unfold qff at g5;rw[if_neg (by omega),if_neg (by omega),if_neg (by omega),if_pos hq,List.getLast?_concat,List.dropLast_concat]at g5;simp only at g5;split at g5
   ·injection g5 with g5;subst g5
    exact ihl _ _ _ g6
   ·cases g5
theorem q6y{p q:Pt}{b:List Pt}(hp:p.kind=3\/p.kind=4)(hq:q.kind=5)(hb:Wf o b){x:Sx}{B:List Sx}{y:Sx×List Sx}(h:qeo (p::b++q::l) x B=some y):qeo l x B=some y:=by
 have e:p::b++q::l=p::(b++(q::l)):=by simp
 rw[e]at h;obtain⟨z,g1,g2⟩:=Option.bind_eq_some_iff.1 h;unfold qff at g1;rw[if_neg (by omega),if_neg (by omega),if_pos hp]at g1;injection g1 with g1;subst g1;rw[qj4]at g2;obtain⟨u,g3,g4⟩:=Option.bind_eq_some_iff.1 g2;have hu:=q4h hb _ _ _ g3;obtain⟨u1,u2⟩:=u;simp only at hu g4;subst hu;obtain⟨v,g5,g6⟩:=Option.bind_eq_some_iff.1 g4;unfold qff at g5;rw[if_neg (by omega),if_neg (by omega),if_neg (by omega),if_pos hq,List.getLast?_concat,List.dropLast_concat]at g5;simp only at g5;split at g5
 ·rename_i hx
  injection g5 with g5;subst g5;simp only at g6;rw[hx]at g6;exact g6
 ·cases g5
theorem qzs{α:Type}{P l:List α}{p:α}(h:P.drop o=p::l):P[o]?=some p/\P.drop (o+1)=l:=by
 have h1:P[o]?=some p:=by
  have:=congrArg (·[0]?) h;simpa using this
 refine⟨h1,?_⟩;have:=qvg h1;rw[h]at this;exact((List.cons.injEq _ _ _ _).mp this).2.symm
theorem qz5(beh:Sr->List UInt8->Sx->Sr×Sx){o:Nat}{l:List Pt}(h:Wf o l):∀(P:List Pt),P.drop o=l->(∀p∈P,p.kind=6->∀s x,beh s p.text x=(s,x)) ->
  ∀(n:Nat) (s:Sr) (x:Sx) (B:List Sx) (y:Sx×List Sx),l.length<n->SxOk x->qeo l x B=some y->qdh beh P n o s x=(s,y.1):=by
 induction h with
 |nil o=>
   intro P hP ha n s x B y hn hx h;injection h with h;subst h;obtain⟨n,rfl⟩:∃k,n=k+1:=⟨n - 1,by simp at hn;omega⟩;unfold qdh;have:P[o]?=Option.none:=by simpa using hP
   rw[this,qjv hx];rfl
 |leaf o p l hk _ ih=>
   intro P hP ha n s x B y hn hx h;obtain⟨z,h1,h2⟩:=Option.bind_eq_some_iff.1 h;obtain⟨hp,hd⟩:=qzs hP;have hz:=qqf hx h1;obtain⟨n,rfl⟩:∃k,n=k+1:=⟨n - 1,by simp at hn;omega⟩;have Ha:l.length<n:=by simp at hn;omega
   unfold qdh;rw[hp,qjv hx];unfold qff at h1;simp only[Bool.false_eq_true,if_false];by_cases k1:p.kind=1
   ·rw[if_pos k1]at h1 |-
    split at h1
    ·cases h1
    ·injection h1 with h1;subst h1
     exact ih P hd ha n s _ _ y Ha hz h2
   rw[if_neg k1]at h1 |-;by_cases k2:p.kind=2
   ·rw[if_pos k2]at h1 |-
    split at h1
    ·injection h1 with h1;subst h1
     exact ih P hd ha n s _ _ y Ha hz h2
    ·cases h1
   rw[if_neg k2,if_neg (by omega),if_neg (by omega)]at h1;rw[if_neg k2,if_neg (by omega),if_pos (by omega),ha p (List.mem_of_getElem? hp) (by omega)];injection h1 with h1;subst h1;exact ih P hd ha n s _ _ y Ha hz h2
 |sec o p q b l hp hq h1 h2 hb _ ihb ihl=>
   intro P hP ha n s x B y hn hx h;have e:p::b++q::l=p::(b++(q::l)):=by simp
   have Hb:=hP;rw[e]at Hb;obtain⟨hc,hd⟩:=qzs Hb;obtain⟨n,rfl⟩:∃k,n=k+1:=⟨n - 1,by simp at hn;omega⟩;have Hc:P.drop (o+b.length+2)=l:=by
    have:P.drop (o+1+b.length+1)=l:=by
     rw[Nat.add_assoc (o+1),<-List.drop_drop,hd,<-List.drop_drop,List.drop_left];rfl
    rw[show o+b.length+2=o+1+b.length+1 by omega];exact this
   unfold qdh;rw[hc,qjv hx];simp only[Bool.false_eq_true,if_false];rw[if_neg (by omega),if_neg (by omega),if_pos hp,h1,show o+1+b.length+1=o+b.length+2 by omega];exact ihl P Hc ha n s x B y (by simp at hn;omega) hx (q6y hp hq hb h)
end Go.Proofs.YtfkhljmiehdgmaaGreatDoor.Pl
