/-
  Steps of the proof.
-/
import Derived.Test.YtfkhljmiehdgmaaGreatDoorCmAG
import Derived.DeepKeys3
namespace Go.Proofs.YtfkhljmiehdgmaaGreatDoor.Pl
structure Vw where
 mode:Int
 elem:Int
 attr:Int
 ends:Int
 esc:Int
 pct:Int
 link:Int
 name:List UInt8
 ref:Bool
def qbt(n:List UInt8):Int:=if n=qcv∨[111,110] <+: n then 3 else if n=[104,114,101,102]∨n=[115,114,99]∨n=[97,99,116,105,111,110] then 2 else 1
theorem ql7(n:List UInt8):qbt n=qcw n+1:=by
 unfold qbt;have ha:([111,110]:List UInt8).isPrefixOf n=true↔[111,110] <+: n:=List.isPrefixOf_iff_prefix;by_cases h0:n=[104,114,101,102]
 ·subst h0;rfl
 by_cases h1:n=[115,114,99]
 ·subst h1;rfl
 by_cases h2:n=[97,99,116,105,111,110]
 ·subst h2;rfl
 have f0:qbb n ([104,114,101,102],false,1)=false:=by unfold qbb;rw[Bool.false_and,Bool.or_false,beq_eq_false_iff_ne];exact fun q=>h0 q.symm
 have f1:qbb n ([115,114,99],false,1)=false:=by unfold qbb;rw[Bool.false_and,Bool.or_false,beq_eq_false_iff_ne];exact fun q=>h1 q.symm
 have f2:qbb n ([97,99,116,105,111,110],false,1)=false:=by unfold qbb;rw[Bool.false_and,Bool.or_false,beq_eq_false_iff_ne];exact fun q=>h2 q.symm
 have Ha:¬(n=[104,114,101,102]∨n=[115,114,99]∨n=[97,99,116,105,111,110]):=by
  rintro(q | q | q)
  ·exact h0 q
  ·exact h1 q
  ·exact h2 q
 rw[if_neg Ha];unfold qcw qds;rw[List.find?_cons,f0,List.find?_cons,f1,List.find?_cons,f2,List.find?_cons];by_cases h3:n=qcv
 ·have f3:qbb n (qcv,false,2)=true:=by unfold qbb;rw[h3];rfl
  rw[f3,if_pos (.inl h3)];rfl
 ·have f3:qbb n (qcv,false,2)=false:=by unfold qbb;rw[Bool.false_and,Bool.or_false,beq_eq_false_iff_ne];exact fun q=>h3 q.symm
  rw[f3,List.find?_cons];by_cases h4:[111,110] <+: n
  ·have f4:qbb n ([111,110],true,2)=true:=by unfold qbb;rw[Bool.true_and,ha.2 h4,Bool.or_true]
   rw[f4,if_pos (.inr h4)];rfl
  ·have f4:qbb n ([111,110],true,2)=false:=by
    unfold qbb;rw[Bool.true_and,Bool.eq_false_iff.2 (fun q=>h4 (ha.1 q)),Bool.or_false,beq_eq_false_iff_ne];rintro rfl;exact h4 (List.prefix_refl _)
   rw[f4,List.find?_nil,if_neg (fun q=>q.elim h3 h4)];rfl
def qlw(m:Int):Bool:=m==1 || (m==19 || (m==8 || m==9))
def Sp.view(p:Sp):Vw where
 mode:=p.mode
 elem:=if(3<p.mode∧p.mode≤10)∨19≤p.mode then qco p.tag else 0
 attr:=if 6≤p.mode∧p.mode≤9 then qbt p.attr else 0
 ends:=if 19≤p.mode then p.read else 0
 esc:=if qb7 p.mode=true then qdy (qbe p.mode) p.run else 0
 pct:=if(p.mode=8∨p.mode=9)∧qbt p.attr=2 then qg8 p.run else 0
 link:=if(p.mode=8∨p.mode=9)∧qbt p.attr=2 then p.far else 0
 name:=if p.mode=3 then p.tag else if p.mode=5 then p.attr else[]
 ref:=if qlw p.mode=true then qht p.run else false
def Sx.view(x:Sx):Vw where
 mode:=x.st.mode
 elem:=qco x.st.elem
 attr:=if 6≤x.st.mode∧x.st.mode≤9 then x.st.kind+1 else 0
 ends:=x.st.read
 esc:=if x.st.esc=true then 1 else if x.ma.hex=0 then 0 else x.ma.hex+1
 pct:=x.ma.pct
 link:=if qba x.st.kind x.st.mode=true then qja x.ma.far else 0
 name:=x.st.name
 ref:=x.ma.ref
theorem qnf(n:List UInt8):qco (qax n)=qco n:=by
 unfold qax;split
 ·rfl
 ·next h=>
  simp only[not_or]at h;unfold qco;rw[if_neg h.1,if_neg h.2.1,if_neg h.2.2.1,if_neg h.2.2.2];rfl
theorem qzv:∀m:Nat,m≤33→qlw (m:Int)=decide (qas m=1):=by decide
theorem qc6(x:Sx)(p:Sp)(hb:SxOk x)(h:ParX x p):p.view=x.view:=by
 have hm:=h.par.mode;have hs:=hb.st;have Hb:=hs.hi;have ha:=hs.bare;unfold Sp.view Sx.view;rw[hm];have c1:(if(3<(x.st.mode:Int)∧(x.st.mode:Int)≤10)∨19≤(x.st.mode:Int) then(qco p.tag:Int) else 0)=qco x.st.elem:=by
  by_cases q:4≤x.st.mode∧x.st.mode≤10
  ·rw[if_pos (by omega),←h.par.inTag q.1 q.2,qnf]
  ·by_cases q':19≤x.st.mode
   ·rw[if_pos (by omega),h.par.tag q']
   ·rw[if_neg (by omega),(ha (by omega)).1];rfl
 have c2:(if 6≤(x.st.mode:Int)∧(x.st.mode:Int)≤9 then qbt p.attr else 0)=if 6≤x.st.mode∧x.st.mode≤9 then x.st.kind+1 else 0:=by
  by_cases q:6≤x.st.mode∧x.st.mode≤9
  ·rw[if_pos (by omega),if_pos q,h.kind q.1 q.2,ql7]
  ·rw[if_neg (by omega),if_neg q]
 have c3:(if 19≤(x.st.mode:Int) then(p.read:Int) else 0)=x.st.read:=by
  by_cases q:19≤x.st.mode
  ·rw[if_pos (by omega),h.par.read q]
  ·rw[if_neg (by omega),hs.low (by omega)];rfl
 have c4:(if qb7 (x.st.mode:Int)=true then qdy (qbe x.st.mode) p.run else 0)=if x.st.esc=true then 1 else if x.ma.hex=0 then 0 else x.ma.hex+1:=by
  by_cases q:qb7 (x.st.mode:Int)=true
  ·rw[if_pos q];exact(h.ma.str q).symm
  ·obtain⟨q1,q2⟩:=h.ma.nostr (Bool.eq_false_iff.2 q)
   rw[if_neg q,q1,q2];rfl
 have Ha:(((x.st.mode:Int)=8∨(x.st.mode:Int)=9)∧qbt p.attr=2)↔qba x.st.kind x.st.mode=true:=by
  unfold qba;rw[Bool.and_eq_true,Bool.or_eq_true,beq_iff_eq,beq_iff_eq,beq_iff_eq];constructor
  ·rintro⟨a,c⟩
   rw[ql7,←h.kind (by omega) (by omega)]at c;exact⟨by omega,by omega⟩
  ·rintro⟨a,c⟩
   rw[ql7,←h.kind (by omega) (by omega)];exact⟨by omega,by omega⟩
 have c5:(if((x.st.mode:Int)=8∨(x.st.mode:Int)=9)∧qbt p.attr=2 then qg8 p.run else 0)=x.ma.pct:=by
  by_cases q:qba x.st.kind x.st.mode=true
  ·rw[if_pos (Ha.2 q)];exact(h.ma.link q).1.symm
  ·rw[if_neg (fun z=>q (Ha.1 z))];exact(h.ma.nolink (Bool.eq_false_iff.2 q)).1.symm
 have c6:(if((x.st.mode:Int)=8∨(x.st.mode:Int)=9)∧qbt p.attr=2 then p.far else 0)=if qba x.st.kind x.st.mode=true then qja x.ma.far else 0:=by
  by_cases q:qba x.st.kind x.st.mode=true
  ·rw[if_pos (Ha.2 q),if_pos q];exact(h.ma.link q).2.1.symm
  ·rw[if_neg (fun z=>q (Ha.1 z)),if_neg q]
 have c7:(if(x.st.mode:Int)=3 then p.tag else if(x.st.mode:Int)=5 then p.attr else[])=x.st.name:=by
  by_cases q:x.st.mode=3
  ·rw[if_pos (by omega),h.par.tagName q]
  ·by_cases q':x.st.mode=5
   ·rw[if_neg (by omega),if_pos (by omega),h.par.attrName q']
   ·rw[if_neg (by omega),if_neg (by omega),hs.named q q']
 have c8:(if qlw (x.st.mode:Int)=true then qht p.run else false)=x.ma.ref:=by
  rw[qzv _ Hb,h.ma.ref];cases decide (qas x.st.mode=1)<;>rfl
 rw[c1,c2,c3,c4,c5,c6,c7,c8]
def qrf(x:Sx):Prop:=x.st.esc=true→x.ma.hex=0
theorem qst(x:Sx)(b:UInt8)(ha:SxOk x):qrf (x.behind b):=by
 have hs:=ha.st;by_cases he:19≤x.st.mode∧x.st.ends b=true
 ·rw[qzl x b he.1 he.2];intro q;cases q
 ·cases hq:(qa3.getD x.st.mode false && (x.st.esc || b==92))
  ·rw[qph x b _ _ he hq rfl rfl]
   have hz:x.st.esc=false:=by
    by_cases q:qa3.getD x.st.mode false=true
    ·rw[q,Bool.true_and,Bool.or_eq_false_iff]at hq
     exact hq.1
    ·exact hs.calm (Bool.eq_false_iff.2 q)
   intro q;exfalso
   replace q:((St.mk (qbw x.st.mode b) x.st.name x.st.elem x.st.kind (x.st.nowRead b) x.st.esc).led (qdc x.st.mode b) b).esc=true:=q
   by_cases c:qdc x.st.mode b=34
   ·rw[c]at q
    unfold St.led at q;split at q
    ·rw[show ∀s:St,s.led1 34 b=qcg s.elem from fun _=>rfl,(qny _).2.1]at q;cases q
    ·rw[show ∀s:St,s.led1 34 b=qcg s.elem from fun _=>rfl,(qny _).2.1]at q;cases q
   ·rw[(q54 _ _ b c).2.2.2.1]at q
    simp only at q;rw[hz]at q;cases q
  ·rw[qve x b he hq]
   intro q
   replace q:(!x.st.esc)=true:=q
   show (qa7 x.st.mode x.st.esc b).hex=0
   have:x.st.esc=false:=by cases h:x.st.esc with
    | false=>rfl
    | true=>rw[h]at q;cases q
   rw[this];rfl
theorem qmd{n n':List UInt8}(h:qit n)(h':qit n')(q:qco n=qco n'):n=n':=by
 rcases h with rfl | rfl | rfl | rfl | rfl<;>rcases h' with rfl | rfl | rfl | rfl | rfl<;>first | rfl | (exfalso;revert q;decide)
theorem q44(x y:Sx)(p q:Sp)(hx:SxOk x)(hy:SxOk y)(ex:qrf x)(ey:qrf y)(px:ParX x p)(py:ParX y q)(h:x.view=y.view):x=y:=by
 have hm:x.st.mode=y.st.mode:=by
  have:=congrArg Vw.mode h;show _=_;have z:(x.st.mode:Int)=(y.st.mode:Int):=this;omega
 have he:x.st.elem=y.st.elem:=by
  have z:(qco x.st.elem:Int)=(qco y.st.elem:Int):=congrArg Vw.elem h;exact qmd hx.st.elem hy.st.elem (by omega)
 have hn:x.st.name=y.st.name:=congrArg Vw.name h;have hr:x.st.read=y.st.read:=by
  have z:(x.st.read:Int)=(y.st.read:Int):=congrArg Vw.ends h;omega
 have hk:x.st.kind=y.st.kind:=by
  have z:(if 6≤x.st.mode∧x.st.mode≤9 then x.st.kind+1 else 0)=(if 6≤y.st.mode∧y.st.mode≤9 then y.st.kind+1 else 0):=congrArg Vw.attr h;by_cases c:6≤x.st.mode∧x.st.mode≤9
  ·rw[if_pos c,if_pos (by rw[←hm];exact c)]at z;omega
  ·rw[px.plain c,py.plain (by rw[←hm];exact c)]
 have ha:x.ma.ref=y.ma.ref:=congrArg Vw.ref h;have Ha:x.ma.pct=y.ma.pct:=congrArg Vw.pct h;have hb:x.ma.far=y.ma.far:=by
  have z:(if qba x.st.kind x.st.mode=true then qja x.ma.far else 0)=(if qba y.st.kind y.st.mode=true then qja y.ma.far else 0):=congrArg Vw.link h;rw[←hk,←hm]at z;by_cases c:qba x.st.kind x.st.mode=true
  ·rw[if_pos c,if_pos c]at z
   obtain⟨_,_,a1,a2⟩:=px.ma.link c;obtain⟨_,_,b1,b2⟩:=py.ma.link (by rw[←hk,←hm];exact c);unfold qja at z
   repeat' split at z
   all_goals omega
  ·rw[(px.ma.nolink (Bool.eq_false_iff.2 c)).2,(py.ma.nolink (by rw[←hk,←hm];exact Bool.eq_false_iff.2 c)).2]
 have Hb:x.st.esc=y.st.esc∧x.ma.hex=y.ma.hex:=by
  have z:(if x.st.esc=true then(1:Int) else if x.ma.hex=0 then 0 else x.ma.hex+1)=(if y.st.esc=true then(1:Int) else if y.ma.hex=0 then 0 else y.ma.hex+1):=congrArg Vw.esc h;have x0:=px.ma.hex;have y0:=py.ma.hex;cases a:x.st.esc<;>cases c:y.st.esc
  ·rw[a,c]at z
   replace z:(if x.ma.hex=0 then(0:Int) else x.ma.hex+1)=(if y.ma.hex=0 then(0:Int) else y.ma.hex+1):=z
   refine⟨rfl,?_⟩;by_cases c1:x.ma.hex=0<;>by_cases c2:y.ma.hex=0
   ·omega
   ·rw[if_pos c1,if_neg c2]at z;omega
   ·rw[if_neg c1,if_pos c2]at z;omega
   ·rw[if_neg c1,if_neg c2]at z;omega
  ·rw[a,c]at z
   replace z:(if x.ma.hex=0 then(0:Int) else x.ma.hex+1)=1:=z
   exfalso;by_cases c1:x.ma.hex=0
   ·rw[if_pos c1]at z;omega
   ·rw[if_neg c1]at z;omega
  ·rw[a,c]at z
   replace z:(1:Int)=(if y.ma.hex=0 then(0:Int) else y.ma.hex+1):=z
   exfalso;by_cases c1:y.ma.hex=0
   ·rw[if_pos c1]at z;omega
   ·rw[if_neg c1]at z;omega
  ·exact⟨rfl,by rw[ex a,ey c]⟩
 obtain⟨⟨m,n,e,k,r,z⟩,⟨rf,Hc,pc,fr⟩⟩:=x;obtain⟨⟨m',n',e',k',r',z'⟩,⟨rf',hc,pc',fr'⟩⟩:=y;simp only at hm he hn hr hk ha Ha hb Hb;obtain⟨h1,h2⟩:=Hb;subst hm he hn hr hk ha Ha hb h1 h2;rfl
def Sx.halfway(x:Sx):Bool:=x.ma.ref || (x.st.esc || (decide (0<x.ma.hex) || (decide (0<x.ma.pct) || decide (0<x.st.read))))
def Sx.hole(x:Sx):Int×Int:=
 if qas x.st.mode=0 then(0,10) else if x.st.kind=2 then(0,11) else if x.halfway=true then(0,12)
 else if qba x.st.kind x.st.mode=true∧x.ma.far=0 then(2,0) else if qba x.st.kind x.st.mode=true then(3,0) else(qas x.st.mode,0)
def Sx.behindHole(x:Sx):Sx:=if qba x.st.kind x.st.mode=true∧x.ma.far<2 then⟨x.st,⟨x.ma.ref,x.ma.hex,x.ma.pct,2⟩⟩ else x
def Vw.as(v:Vw):Int:=
 if v.mode=1∨v.mode=19 then 1 else if v.mode=8∨v.mode=9 then(if v.link=2 then 2 else if v.attr=2 then 3 else 1) else if v.mode=21∨v.mode=22 then 4 else if v.mode=29∨v.mode=30 then 5 else 0
def Vw.hole(v:Vw):Int×Int:=if v.as=0 then(0,10) else if v.attr=3 then(0,11) else if(v.ref || (decide (0<v.esc) || (decide (0<v.pct) || decide (0<v.ends))))=true then(0,12) else(v.as,0)
def Sp.behindHole(p:Sp):Sp:=if p.view.link=2∨p.view.link=3 then⟨p.mode,p.tag,p.attr,p.inside,p.run,4⟩ else p
theorem qoy(x:Sx)(p:Sp)(h:ParX x p):(x.view.link=2↔qba x.st.kind x.st.mode=true∧x.ma.far=0)∧(x.view.link=3↔qba x.st.kind x.st.mode=true∧x.ma.far=1)∧(x.view.link=4↔qba x.st.kind x.st.mode=true∧x.ma.far=2):=by
 have e:x.view.link=if qba x.st.kind x.st.mode=true then qja x.ma.far else 0:=rfl;rw[e];by_cases c:qba x.st.kind x.st.mode=true
 ·obtain⟨_,_,a,b⟩:=h.ma.link c
  rw[if_pos c];unfold qja;have:x.ma.far=0∨x.ma.far=1∨x.ma.far=2∨x.ma.far=3:=by omega
  rcases this with q | q | q | q<;>rw[q]<;>simp[c]
 ·rw[if_neg c]
  refine⟨⟨fun q=>by omega,fun q=>absurd q.1 c⟩,⟨fun q=>by omega,fun q=>absurd q.1 c⟩,⟨fun q=>by omega,fun q=>absurd q.1 c⟩⟩
theorem q3u(x:Sx)(p:Sp)(h:ParX x p):x.view.hole=x.hole:=by
 have hm:x.view.mode=(x.st.mode:Int):=rfl;have ha:x.view.attr=if 6≤x.st.mode∧x.st.mode≤9 then x.st.kind+1 else 0:=rfl;obtain⟨l2,_,_⟩:=qoy x p h;have Hc:qba x.st.kind x.st.mode=true↔(x.st.mode=8∨x.st.mode=9)∧x.st.kind=1:=by
  refine⟨qdd,fun q=>?_⟩;unfold qba;rw[Bool.and_eq_true,Bool.or_eq_true,beq_iff_eq,beq_iff_eq,beq_iff_eq];exact⟨q.2,q.1⟩
 have hw:qas x.st.mode=if x.st.mode=1∨x.st.mode=19∨x.st.mode=8∨x.st.mode=9 then 1 else if x.st.mode=21∨x.st.mode=22 then 4 else if x.st.mode=29∨x.st.mode=30 then 5 else 0:=rfl;have He:x.view.as=if qba x.st.kind x.st.mode=true∧x.ma.far=0 then 2 else if qba x.st.kind x.st.mode=true then 3 else qas x.st.mode:=by
  have A:x.view.as=if((x.st.mode:Int)=1∨(x.st.mode:Int)=19) then 1 else if((x.st.mode:Int)=8∨(x.st.mode:Int)=9) then(if x.view.link=2 then 2 else if x.view.attr=2 then 3 else 1) else if((x.st.mode:Int)=21∨(x.st.mode:Int)=22) then 4 else if((x.st.mode:Int)=29∨(x.st.mode:Int)=30) then 5 else 0:=rfl;rw[A,hw];by_cases c2:x.st.mode=8∨x.st.mode=9
  ·have p1:¬((x.st.mode:Int)=1∨(x.st.mode:Int)=19):=by omega
   have p2:(x.st.mode:Int)=8∨(x.st.mode:Int)=9:=by omega
   have p3:x.st.mode=1∨x.st.mode=19∨x.st.mode=8∨x.st.mode=9:=by omega
   have p4:6≤x.st.mode∧x.st.mode≤9:=by omega
   rw[if_neg p1,if_pos p2,if_pos p3,ha,if_pos p4];by_cases c3:qba x.st.kind x.st.mode=true∧x.ma.far=0
   ·rw[if_pos (l2.2 c3),if_pos c3]
   ·rw[if_neg (fun q=>c3 (l2.1 q)),if_neg c3]
    by_cases c4:qba x.st.kind x.st.mode=true
    ·have:x.st.kind+1=2:=by have:=(Hc.1 c4).2;omega
     rw[if_pos this,if_pos c4]
    ·have:¬x.st.kind+1=2:=fun q=>c4 (Hc.2 ⟨c2,by omega⟩)
     rw[if_neg this,if_neg c4]
  ·have n:¬qba x.st.kind x.st.mode=true:=fun q=>c2 (Hc.1 q).1
   have n':¬(qba x.st.kind x.st.mode=true∧x.ma.far=0):=fun q=>n q.1;rw[if_neg n',if_neg n];by_cases c1:x.st.mode=1∨x.st.mode=19
   ·have p1:(x.st.mode:Int)=1∨(x.st.mode:Int)=19:=by omega
    have p3:x.st.mode=1∨x.st.mode=19∨x.st.mode=8∨x.st.mode=9:=by omega
    rw[if_pos p1,if_pos p3]
   ·have p1:¬((x.st.mode:Int)=1∨(x.st.mode:Int)=19):=by omega
    have p2:¬((x.st.mode:Int)=8∨(x.st.mode:Int)=9):=by omega
    have p3:¬(x.st.mode=1∨x.st.mode=19∨x.st.mode=8∨x.st.mode=9):=by omega
    rw[if_neg p1,if_neg p2,if_neg p3];by_cases c4:x.st.mode=21∨x.st.mode=22
    ·have p5:(x.st.mode:Int)=21∨(x.st.mode:Int)=22:=by omega
     rw[if_pos p5,if_pos c4]
    ·have p5:¬((x.st.mode:Int)=21∨(x.st.mode:Int)=22):=by omega
     rw[if_neg p5,if_neg c4];by_cases c5:x.st.mode=29∨x.st.mode=30
     ·have p6:(x.st.mode:Int)=29∨(x.st.mode:Int)=30:=by omega
      rw[if_pos p6,if_pos c5]
     ·have p6:¬((x.st.mode:Int)=29∨(x.st.mode:Int)=30):=by omega
      rw[if_neg p6,if_neg c5]
 have hb:x.view.as=0↔qas x.st.mode=0:=by
  rw[He];by_cases c:qba x.st.kind x.st.mode=true
  ·have:qas x.st.mode=1:=by rcases(Hc.1 c).1 with q | q<;>rw[q]<;>rfl
   rw[this];by_cases c':qba x.st.kind x.st.mode=true∧x.ma.far=0
   ·rw[if_pos c'];omega
   ·rw[if_neg c',if_pos c];omega
  ·rw[if_neg (fun q=>c q.1),if_neg c]
 have he:decide (0<x.view.esc)=(x.st.esc || decide (0<x.ma.hex)):=by
  have e:x.view.esc=if x.st.esc=true then 1 else if x.ma.hex=0 then 0 else x.ma.hex+1:=rfl;have h0:=h.ma.hex;rw[e];cases x.st.esc
  ·rw[if_neg (by simp),Bool.false_or]
   by_cases c:x.ma.hex=0
   ·rw[if_pos c,c]
   ·rw[if_neg c,decide_eq_true (by omega),decide_eq_true (by omega)]
  ·rw[if_pos rfl];rfl
 have Hb:decide (0<x.view.ends)=decide (0<x.st.read):=by
  have e:x.view.ends=(x.st.read:Int):=rfl;rw[e,decide_eq_decide];omega
 have hc:(x.view.ref || (decide (0<x.view.esc) || (decide (0<x.view.pct) || decide (0<x.view.ends))))=x.halfway:=by
  unfold Sx.halfway;rw[he,Hb,show x.view.ref=x.ma.ref from rfl,show x.view.pct=x.ma.pct from rfl,Bool.or_assoc]
 unfold Vw.hole Sx.hole;rw[hc];by_cases c:qas x.st.mode=0
 ·rw[if_pos (hb.2 c),if_pos c]
 ·rw[if_neg (fun q=>c (hb.1 q)),if_neg c]
  have Ha:x.view.attr=3↔x.st.kind=2:=by
   rw[ha];by_cases q:6≤x.st.mode∧x.st.mode≤9
   ·rw[if_pos q];omega
   ·rw[if_neg q,h.plain q];omega
  by_cases c2:x.st.kind=2
  ·rw[if_pos (Ha.2 c2),if_pos c2]
  ·rw[if_neg (fun q=>c2 (Ha.1 q)),if_neg c2]
   by_cases c3:x.halfway=true
   ·rw[if_pos c3,if_pos c3]
   ·rw[if_neg c3,if_neg c3,He]
    split
    ·rfl
    ·split
     ·rfl
     ·rfl
theorem q3v(x:Sx)(p:Sp)(ha:SxOk x)(h:ParX x p):p.view.hole=x.hole:=by rw[qc6 x p ha h,q3u x p h]
theorem qfj(x:Sx)(p:Sp)(ha:SxOk x)(h:ParX x p):ParX x.behindHole p.behindHole:=by
 obtain⟨l2,l3,_⟩:=qoy x p h;unfold Sx.behindHole Sp.behindHole;rw[qc6 x p ha h];by_cases c:qba x.st.kind x.st.mode=true
 ·obtain⟨a1,a2,a3,a4⟩:=h.ma.link c
  by_cases f:x.ma.far<2
  ·have hv:x.view.link=2∨x.view.link=3:=by
    by_cases z:x.ma.far=0
    ·exact .inl (l2.2 ⟨c,z⟩)
    ·exact .inr (l3.2 ⟨c,by omega⟩)
   rw[if_pos ⟨c,f⟩,if_pos hv];refine⟨⟨h.par.mode,h.par.tagName,h.par.attrName,h.par.inTag,h.par.tag,h.par.read,h.par.esc⟩,h.kind,h.plain,?_⟩;exact⟨h.ma.ref,h.ma.hex,h.ma.str,h.ma.nostr,fun _=>⟨a1,rfl,(by show (0:Int)≤2;omega),(by show (2:Int)≤3;omega)⟩,fun q=>by rw[c]at q;cases q⟩
  ·have hv:¬(x.view.link=2∨x.view.link=3):=by
    rintro(q | q)
    ·have:=(l2.1 q).2;omega
    ·have:=(l3.1 q).2;omega
   rw[if_neg (fun q=>f q.2),if_neg hv];exact h
 ·have hv:¬(x.view.link=2∨x.view.link=3):=by
   rintro(q | q)
   ·exact c (l2.1 q).1
   ·exact c (l3.1 q).1
  rw[if_neg (fun q=>c q.1),if_neg hv];exact h
theorem qip(x:Sx)(h:SxOk x):SxOk x.behindHole:=by
 unfold Sx.behindHole;split
 ·exact⟨h.st,⟨h.ma.hex,h.ma.pct⟩⟩
 ·exact h
theorem qpz(x:Sx)(h:qrf x):qrf x.behindHole:=by
 unfold Sx.behindHole;split
 ·exact h
 ·exact h
theorem qwh(x:Sx)(p:Sp)(b:UInt8)(ha:SxOk x)(h:ParX x p):qbv x.st.kind x.st.mode x.ma.far b=(b==58 && decide (p.view.link=4)):=by
 obtain⟨_,_,l4⟩:=qoy x p h;rw[qc6 x p ha h];unfold qbv
 congr 1
 rw[Bool.eq_iff_iff,Bool.and_eq_true,beq_iff_eq,decide_eq_true_eq];exact l4.symm
deriving instance DecidableEq for St,Mk,Sx
structure Src where
 name:List UInt8
 parts:List Pt
abbrev En:=Nat×Sx
structure Ft where
 code:Nat
 kind:Int
 place:List UInt8
 pos:Nat
def Ft.none:Ft:=⟨0,0,[],0⟩
structure Sr where
 ends:List (En×Sx)
 nums:List (En×Nat)
 vis:List (Nat×List Int)
 fault:Ft
def Sx.none:Sx:=⟨⟨0,[],[],0,0,false⟩,Mk.none⟩
def Sx.isNone(x:Sx):Bool:=x.st.mode==0
def qa1{α:Type}:List (En×α)→En→Option α
 | [],_=>Option.none
 | (k,v)::l,e=>if k=e then some v else qa1 l e
def qa5{α:Type}:List (En×α)→En→α→List (En×α)
 | [],e,v=>[(e,v)]
 | (k,u)::l,e,v=>if k=e then(e,v)::l else(k,u)::qa5 l e v
def qfs(n:List UInt8):Nat→List Src→Nat
 | _,[]=>0
 | i,s::l=>if s.name=n then i else qfs n (i+1) l
def qai(S:List Src)(n:List UInt8):Nat:=qfs n 1 (S.drop 1)
def qab(S:List Src)(i:Nat):List Pt:=match S[i]? with
 | some s=>s.parts
 | Option.none=>[]
def qep(S:List Src)(i:Nat):List UInt8:=match S[i]? with
 | some s=>s.name
 | Option.none=>[]
def qde(beh:Sr→List UInt8→Sx→Sr×Sx)(P:List Pt):Nat→Nat→Sr→Sx→Sr×Sx
 | 0,_,s,x=>(s,x)
 | n+1,a,s,x=>
   if x.isNone=true then(s,x) else
   match P[a]? with
   | Option.none=>(s,x)
   | some p=>
     if p.kind=1 then qde beh P n (a+1) s (qaw x p.text)
     else if p.kind=2 then qde beh P n (a+1) s x.behindHole
     else if p.kind=3∨p.kind=4 then qde beh P n (p.mate+1) s x
     else if p.kind=6 then qde beh P n (a+1) (beh s p.text x).1 (beh s p.text x).2
     else qde beh P n (a+1) s x
def qqy:Ft:=⟨3,0,[],0⟩
def behV(S:List Src):Nat→Sr→List UInt8→Sx→Sr×Sx
 | 0,s,_,x=>(s,x)
 | k+1,s,n,x=>
   if qai S n=0 then(s,x) else
   match qa1 s.ends (qai S n,x) with
   | some e=>(s,e)
   | Option.none=>
     if s.ends.length=256 then({ s with fault:=qqy },Sx.none) else
     let P:=qab S (qai S n)
     let r:=qde (behV S k) P (P.length+1) 0 { s with ends:=qa5 s.ends (qai S n,x) Sx.none } x
     ({ r.1 with ends:=qa5 r.1.ends (qai S n,x) r.2 },r.2)
def qbj:Sx→List UInt8→Option Nat
 | _,[]=>Option.none
 | x,b::l=>if qbv x.st.kind x.st.mode x.ma.far b=true then some 0 else(qbj (x.behind b) l).map (·+ 1)
def Sr.wrong(s:Sr)(S:List Src)(i:Nat)(kind:Int)(pos:Nat):Sr:={ s with fault:=⟨3,kind,qep S i,pos⟩ }
def Sr.mark(s:Sr)(v a:Nat)(m:Int):Sr:={ s with vis:=s.vis.modify v fun x=>(x.1,x.2.set a m) }
def qgz(s:Sr)(e:En):Nat:=(qa1 s.nums e).getD 0
def goV(nm:Sr→List UInt8→Sx→Sr×Nat×Sx)(S:List Src)(i v:Nat)(P:List Pt):Nat→Nat→Sr→Sx→List (Sx×Nat)→Sr
 | 0,_,s,_,_=>s
 | n+1,a,s,x,B=>
   match P[a]? with
   | Option.none=>s
   | some p=>
     if p.kind=1 then
      (match qbj x p.text with
       | some j=>s.wrong S i 14 (p.pos+j)
       | Option.none=>goV nm S i v P n (a+1) s (qaw x p.text) B)
     else if p.kind=2 then
      (if x.hole.2≠0 then s.wrong S i x.hole.2 p.pos else goV nm S i v P n (a+1) (s.mark v a x.hole.1) x.behindHole B)
     else if p.kind=3∨p.kind=4 then goV nm S i v P n (a+1) s x (B++[(x,p.mate)])
     else if p.kind=5 then
      (match B.getLast? with
       | Option.none=>s
       | some b=>if x≠b.1 then s.wrong S i 13 (qi1 P p.mate) else goV nm S i v P n (a+1) s x B.dropLast)
     else if p.kind=6 then
      let r:=nm s p.text x
      let s1:=r.1.mark v a r.2.1
      if s1.fault.code≠0∨(r.2.2.isNone=true∧B=[]) then s1
      else if r.2.2.isNone=false then goV nm S i v P n (a+1) s1 r.2.2 B
      else(match B.getLast? with
       | Option.none=>s1
       | some b=>goV nm S i v P n b.2 s1 b.1 B)
     else goV nm S i v P n (a+1) s x B
def qfq(S:List Src):Nat→Sr→En→Sr
 | 0,s,_=>s
 | k+1,s,e=>
   let P:=qab S e.1
   let nm:=fun(s:Sr) (n:List UInt8) (x:Sx)=>
    let r:=behV S 257 s n x
    if qai S n=0∨r.1.fault.code≠0 then(r.1,0,r.2)
    else if qgz r.1 (qai S n,x)=0 then
     (qfq S k r.1 (qai S n,x),qgz (qfq S k r.1 (qai S n,x)) (qai S n,x),r.2)
    else(r.1,qgz r.1 (qai S n,x),r.2)
   goV nm S e.1 s.vis.length P (P.length+1) 0 { s with nums:=qa5 s.nums e s.vis.length,vis:=s.vis++[(e.1,List.replicate P.length 0)] } e.2 []
def qec(S:List Src)(len:Nat):List (Nat×List Int)×Ft:=
 let s:=qfq S 258 ⟨[],[],[],Ft.none⟩ (0,Sx.start)
 if s.fault.code≠0 then([],s.fault) else
 let P:=qab S 0
 let r:=qde (behV S 257) P (P.length+1) 0 s Sx.start
 if r.2.isNone=false∧r.2≠Sx.start then([],⟨3,15,qep S 0,len⟩)
 else if r.1.fault.code≠0 then([],r.1.fault) else(r.1.vis,Ft.none)
def qg5:List (List UInt8)→Bool
 | []=>true
 | n::l=>qa6 n && (!l.contains n && qg5 l)
def qa4:List (List UInt8×List UInt8)→Ft×List Src
 | []=>(Ft.none,[])
 | (n,t)::l=>if(qam t).1.1≠0 then(⟨2,(qam t).1.1,n,(qam t).1.2⟩,[])
   else if(qa4 l).1.code≠0 then((qa4 l).1,[]) else(Ft.none,⟨n,(qam t).2⟩::(qa4 l).2)
def qe7(t:List UInt8)(L:List (List UInt8×List UInt8)):(List (Nat×List Int)×List Src)×Ft:=
 if 6<L.length∨qg5 (L.map (·.1))=false then(([],[]),⟨1,0,[],0⟩) else
 if(qa4 (([],t)::L)).1.code≠0 then(([],[]),(qa4 (([],t)::L)).1) else
 if(qec (qa4 (([],t)::L)).2 t.length).2.code≠0 then(([],[]),(qec (qa4 (([],t)::L)).2 t.length).2)
 else(((qec (qa4 (([],t)::L)).2 t.length).1,(qa4 (([],t)::L)).2),Ft.none)
end Go.Proofs.YtfkhljmiehdgmaaGreatDoor.Pl
namespace Go.Proofs.YtfkhljmiehdgmaaGreatDoor
open Go.RowKit Go.Maps
def qf7(e:Pl.En):Value:=.agg (#[.int .i64 e.1]++(qaf e.2))
theorem qee:Keyed Tryz.prog 180:=Keyed.of_law (deep_law (m:=4) (by decide) (by kernel_rfl) (by kernel_rfl) (by kernel_rfl))
theorem ql5:Keyed Tryz.prog 9:=string_keyed Tryz.underlying9
theorem quf(d:Nat)(n:Int)(h:(Lit.int .i64 n).wf=true):Tryz.prog.keyLits (d+1) 3 [.int .i64 n]=some [.int .i64 n]:=by
 unfold Program.keyLits;simp[Tryz.underlying3,h]
theorem q8z(d:Nat)(n:Int)(h:(Lit.int .u8 n).wf=true):Tryz.prog.keyLits (d+1) 158 [.int .u8 n]=some [.int .u8 n]:=by
 unfold Program.keyLits;simp[Tryz.underlying158,h]
theorem q3n(d:Nat)(b:Bool):Tryz.prog.keyLits (d+1) 4 [.bool b]=some [.bool b]:=by
 unfold Program.keyLits;simp[Tryz.underlying4]
theorem q7j(d:Nat)(s:ByteArray)(h:s.size≤maxLen):Tryz.prog.keyLits (d+1) 9 [.string s]=some [.string s.data.toList]:=by
 unfold Program.keyLits;simp[Tryz.underlying9,h]
theorem qje:Tryz.prog.cellsOf 3=1:=by kernel_rfl
theorem q1g:Tryz.prog.cellsOf 158=1:=by kernel_rfl
theorem qq7:Tryz.prog.cellsOf 4=1:=by kernel_rfl
theorem qvb:Tryz.prog.cellsOf 9=1:=by kernel_rfl
theorem qpf:Tryz.prog.cellsOf 160=5:=by kernel_rfl
theorem qkv:Tryz.prog.cellsOf 162=10:=by kernel_rfl
theorem qpg:Tryz.prog.cellsOf 180=11:=by kernel_rfl
theorem q8i(d:Nat)(r e:Bool)(a b c:Int)(ha:(Lit.int .i64 a).wf=true)(hb:(Lit.int .i64 b).wf=true)(hc:(Lit.int .i64 c).wf=true):∃l,Tryz.prog.keyLits (d+2) 160 [.bool r,.bool e,.int .i64 a,.int .i64 b,.int .i64 c]=some l:=by
 unfold Program.keyLits;simp only[Tryz.underlying160];simp[qpf,qje,qq7,quf,q3n,ha,hb,hc]
theorem q2l(d:Nat)(m:Int)(n e:ByteArray)(k rd:Int)(r es:Bool)(a b c:Int)(hm:(Lit.int .u8 m).wf=true)(hn:n.size≤maxLen)(he:e.size≤maxLen)(hk:(Lit.int .i64 k).wf=true)(hr:(Lit.int .i64 rd).wf=true)(ha:(Lit.int .i64 a).wf=true)(hb:(Lit.int .i64 b).wf=true)(hc:(Lit.int .i64 c).wf=true) :
  ∃l,Tryz.prog.keyLits (d+3) 162 [.int .u8 m,.string n,.string e,.int .i64 k,.int .i64 rd,.bool r,.bool es,.int .i64 a,.int .i64 b,.int .i64 c]=some l:=by
 obtain⟨l,hl⟩:=q8i d r es a b c ha hb hc;unfold Program.keyLits;simp only[Tryz.underlying162];simp[qkv,qpf,qje,q1g,qvb,quf,q8z,q7j,hm,hn,he,hk,hr,hl]
theorem qwa{x:Pl.Sx}(h:Pl.SxOk x):(Lit.int .u8 x.st.mode).wf=true∧x.st.name.length≤9∧x.st.elem.length≤8∧(Lit.int .i64 x.st.kind).wf=true∧(Lit.int .i64 (x.st.read:Int)).wf=true∧(Lit.int .i64 x.ma.hex).wf=true∧(Lit.int .i64 x.ma.pct).wf=true:=by
 have h1:=h.st.hi;have h2:=h.st.name;have h3:=h.st.wrap;have h4:=h.st.read;have h5:=h.ma.hex;have h6:=h.ma.pct;have he:x.st.elem.length≤8:=by
  rcases h.st.elem with e | e | e | e | e<;>rw[e]<;>decide
 have hr:x.st.read≤10:=by
  have:x.st.ending.length=x.st.elem.length+2:=rfl;omega
 exact⟨WalkArith.wf_u8 (by omega),h2,he,WalkArith.wf_i64 (by omega),WalkArith.wf_i64 (by omega),WalkArith.wf_i64 (by omega),WalkArith.wf_i64 (by omega)⟩
theorem qq3{e:Pl.En}(h:Pl.SxOk e.2)(hf:0≤e.2.ma.far∧e.2.ma.far≤3)(hi:e.1≤6):∃l,keyOf Tryz.prog 180 (qf7 e)=some l:=by
 obtain⟨h1,h2,h3,h4,h5,h6,h7⟩:=qwa h;obtain⟨d,hs⟩:∃d,Tryz.prog.types.size+1=(d+3)+1:=⟨Tryz.prog.types.size - 3,by
  have:4≤Tryz.prog.types.size:=by decide +kernel
  omega⟩
 obtain⟨l,hl⟩:=q2l d e.2.st.mode ⟨e.2.st.name.toArray⟩ ⟨e.2.st.elem.toArray⟩ e.2.st.kind e.2.st.read e.2.ma.ref e.2.st.esc e.2.ma.hex e.2.ma.pct e.2.ma.far h1 (by simp[ByteArray.size];unfold maxLen;omega) (by simp[ByteArray.size];unfold maxLen;omega) h4 h5 h6 h7 (WalkArith.wf_i64 (by omega));have hk:Tryz.prog.keyType 180=true:=by kernel_rfl
 have Ha:(qf7 e).formed Tryz.prog 180=true:=by
  unfold qf7 Value.formed;simp[Tryz.underlying180,qpg,qaf]
 unfold keyOf;simp only[Tryz.underlying180];rw[hk,Ha,hs];unfold Program.keyLits;simp only[Tryz.underlying180];have ha:(Lit.int .i64 (e.1:Int)).wf=true:=WalkArith.wf_i64 (by omega);unfold qf7 qaf bs;simp[Value.cells,qpg,qkv,qje,quf,ha,hl]
end Go.Proofs.YtfkhljmiehdgmaaGreatDoor
namespace Go.Proofs.YtfkhljmiehdgmaaGreatDoor.Pl
def qfd(x:Sx)(B:List Sx)(p:Pt):Option (Sx×List Sx):=
 if p.kind=1 then(match qbj x p.text with
  | some _=>Option.none
  | Option.none=>some (qaw x p.text,B))
 else if p.kind=2 then(if x.hole.2=0 then some (x.behindHole,B) else Option.none)
 else if p.kind=3∨p.kind=4 then some (x,B++[x])
 else if p.kind=5 then(match B.getLast? with
  | Option.none=>Option.none
  | some b=>if x=b then some (x,B.dropLast) else Option.none)
 else some (x,B)
def qek:List Pt→Sx→List Sx→Option (Sx×List Sx)
 | [],x,B=>some (x,B)
 | p::l,x,B=>(qfd x B p).bind fun y=>qek l y.1 y.2
theorem qj1(l m:List Pt):∀(x:Sx) (B:List Sx),qek (l++m) x B=(qek l x B).bind fun y=>qek m y.1 y.2:=by
 induction l with
 | nil=>intro x B;rfl
 | cons p l ih=>
   intro x B;show (qfd x B p).bind _=((qfd x B p).bind _).bind _;cases qfd x B p with
   | none=>rfl
   | some y=>exact ih y.1 y.2
def deep:List Pt→Nat→Bool
 | [],_=>true
 | p::l,d=>if p.kind=3∨p.kind=4 then deep l (d+1) else if p.kind=5 then decide (d≠0) && deep l (d - 1) else deep l d
theorem q4f{o:Nat}{l:List Pt}(h:Wf o l):∀(m:List Pt) (d:Nat),deep m d=true→deep (l++m) d=true:=by
 induction h with
 | nil o=>intro m d h;exact h
 | leaf o p l hk _ ih=>
   intro m d h;show deep (p::(l++m)) d=true;unfold deep;rw[if_neg (by omega),if_neg (by omega)];exact ih m d h
 | sec o p q b l hp hq h1 h2 hb _ ihb ihl=>
   intro m d h;have e:p::b++q::l++m=p::(b++(q::(l++m))):=by simp
   rw[e];unfold deep;rw[if_pos hp];refine ihb _ _ ?_;unfold deep;rw[if_neg (by omega),if_pos hq];simp only[ne_eq,Nat.add_eq_zero_iff,Nat.succ_ne_self,and_false,not_false_eq_true,decide_true,Bool.true_and,Nat.add_sub_cancel];exact ihl m d h
theorem qk1{o:Nat}{l:List Pt}(h:Wf o l):∀p∈l,1≤p.kind∧p.kind≤6:=by
 induction h with
 | nil o=>intro p hp;cases hp
 | leaf o p l hk _ ih=>
   intro q hq;rcases List.mem_cons.1 hq with rfl | hq
   ·omega
   ·exact ih q hq
 | sec o p q b l hp hq h1 h2 hb _ ihb ihl=>
   intro r hr;simp only[List.cons_append,List.mem_cons,List.mem_append]at hr;rcases hr with rfl | hr | rfl | hr
   ·omega
   ·exact ihb r hr
   ·omega
   ·exact ihl r hr
theorem qoh{x:Sx}{l:List UInt8}{j:Nat}(h:qbj x l=some j):j<l.length:=by
 induction l generalizing x j with
 | nil=>cases h
 | cons b l ih=>
   unfold qbj at h;split at h
   ·injection h with h;subst h;simp
   ·obtain⟨k,h1,rfl⟩:=Option.map_eq_some_iff.1 h
    have:=ih h1;simp;omega
structure Marks(s s':Sr):Prop where
 ends:s'.ends=s.ends
 nums:s'.nums=s.nums
 vis:s'.vis.length=s.vis.length
theorem Marks.refl(s:Sr):Marks s s:=⟨rfl,rfl,rfl⟩
theorem Marks.mark{s s':Sr}(h:Marks s s')(v a:Nat)(m:Int):Marks s (s'.mark v a m):=⟨h.ends,h.nums,by unfold Sr.mark;simp[h.vis]⟩
theorem q0v(s:Sr)(v a:Nat)(m:Int):(s.mark v a m).fault=s.fault:=rfl
theorem qjs{x:Sx}(h:SxOk x):x.isNone=false:=by
 have:=h.st.lo;unfold Sx.isNone;rw[beq_eq_false_iff_ne];omega
theorem qp7{x:Sx}{B:List Sx}{p:Pt}{y:Sx×List Sx}(h:SxOk x)(hs:qfd x B p=some y):SxOk y.1:=by
 unfold qfd at hs;split at hs
 ·split at hs
  ·cases hs
  ·injection hs with hs;subst hs;exact qto _ _ h
 ·split at hs
  ·split at hs
   ·injection hs with hs;subst hs;exact qip _ h
   ·cases hs
  ·split at hs
   ·injection hs with hs;subst hs;exact h
   ·split at hs
    ·split at hs
     ·cases hs
     ·split at hs
      ·injection hs with hs;subst hs;exact h
      ·cases hs
    ·injection hs with hs;subst hs;exact h
theorem qu2{α:Type}{P:List α}{a:Nat}{p:α}(h:P[a]?=some p):P.drop a=p::P.drop (a+1):=by
 obtain⟨h1,h2⟩:=List.getElem?_eq_some_iff.1 h;rw[List.drop_eq_getElem_cons h1,h2]
theorem q0k(P:List Pt)(m:Nat)(hP:P≠[]):∃p∈P,qi1 P m=p.pos∨qi1 P m=0:=by
 unfold qi1;cases h:P[m]? with
 | none=>
   cases P with
   | nil=>exact absurd rfl hP
   | cons p l=>exact⟨p,by simp,.inr rfl⟩
 | some p=>exact⟨p,List.mem_of_getElem? h,.inl rfl⟩
def q69(S:List Src)(i:Nat)(P:List Pt)(s0:Sr)(r:Option (Sx×List Sx))(s:Sr):Prop:=
 match r with
 | some _=>s.fault=s0.fault∧Marks s0 s
 | Option.none=>s.fault.code=3∧s.fault.place=qep S i∧(s.fault.pos=0∨∃p∈P,s.fault.pos=p.pos∨(p.kind=1∧s.fault.pos<p.pos+p.text.length))
theorem q6h(nm:Sr→List UInt8→Sx→Sr×Nat×Sx)(S:List Src)(i v:Nat)(P:List Pt)(hk:∀p∈P,1≤p.kind∧p.kind≤6)(Ha:∀p∈P,p.kind=6→∀s x,nm s p.text x=(s,0,x))(s0:Sr)(h0:s0.fault.code=0) :
  ∀(n a:Nat) (s:Sr) (x:Sx) (B:List (Sx×Nat)),P.length - a<n→deep (P.drop a) B.length=true→s.fault=s0.fault→Marks s0 s→SxOk x →
  q69 S i P s0 (qek (P.drop a) x (B.map (·.1))) (goV nm S i v P n a s x B):=by
 intro n
 induction n with
 | zero=>intro a s x B h;omega
 | succ n ih=>
   intro a s x B hn hd hf hm hx;unfold goV;cases hp:P[a]? with
   | none=>
     have:P.length≤a:=by simpa using hp
     rw[List.drop_eq_nil_of_le this];exact⟨hf,hm⟩
   | some p=>
     have hc:a<P.length:=(List.getElem?_eq_some_iff.1 hp).1;have ha:p∈P:=List.mem_of_getElem? hp;have Hc:=hk p ha;rw[qu2 hp]at hd ⊢;show q69 S i P s0 ((qfd x (B.map (·.1)) p).bind fun y=>qek (P.drop (a+1)) y.1 y.2) _;unfold deep at hd;unfold qfd;simp only;by_cases k1:p.kind=1
     ·rw[if_pos k1,if_pos k1]
      rw[if_neg (by omega),if_neg (by omega)]at hd;cases hs:qbj x p.text with
      | some j=>
        exact⟨rfl,rfl,.inr ⟨p,ha,.inr ⟨k1,by have:=qoh hs;show p.pos+j<_;omega⟩⟩⟩
      | none=>exact ih (a+1) s _ B (by omega) hd hf hm (qto _ _ hx)
     rw[if_neg k1,if_neg k1];by_cases k2:p.kind=2
     ·rw[if_pos k2,if_pos k2]
      rw[if_neg (by omega),if_neg (by omega)]at hd;by_cases hh:x.hole.2=0
      ·rw[if_pos hh,if_neg (fun q=>q hh)]
       exact ih (a+1) _ _ B (by omega) hd hf (hm.mark _ _ _) (qip _ hx)
      ·rw[if_neg hh,if_pos hh]
       exact⟨rfl,rfl,.inr ⟨p,ha,.inl rfl⟩⟩
     rw[if_neg k2,if_neg k2];by_cases k3:p.kind=3∨p.kind=4
     ·rw[if_pos k3,if_pos k3]
      rw[if_pos k3]at hd;have:=ih (a+1) s x (B++[(x,p.mate)]) (by omega) (by simpa using hd) hf hm hx;rw[List.map_append]at this;exact this
     rw[if_neg k3,if_neg k3];rw[if_neg k3]at hd;by_cases k5:p.kind=5
     ·rw[if_pos k5,if_pos k5]
      rw[if_pos k5]at hd;simp only[ne_eq,Bool.and_eq_true,decide_eq_true_eq]at hd;cases hB:B.getLast? with
      | none=>
        rw[List.getLast?_eq_none_iff]at hB;subst hB;exact absurd rfl hd.1
      | some b=>
        have Hb:(B.map (·.1)).getLast?=some b.1:=by rw[List.getLast?_map,hB];rfl
        simp only[Hb];by_cases hb:x=b.1
        ·rw[if_pos hb,if_neg (fun q=>q hb)]
         have:=ih (a+1) s x B.dropLast (by omega) (by simpa using hd.2) hf hm hx;rw[List.map_dropLast]at this;exact this
        ·rw[if_neg hb,if_pos hb]
         refine⟨rfl,rfl,?_⟩;obtain⟨q,hq,h | h⟩:=q0k P p.mate (fun e=>by rw[e]at ha;cases ha)
         ·exact .inr ⟨q,hq,.inl h⟩
         ·exact .inl h
     rw[if_neg k5,if_neg k5];have k6:p.kind=6:=by omega
     rw[if_pos k6,Ha p ha k6];rw[if_neg k5]at hd;simp only[qjs hx];rw[if_neg (by rw[q0v,hf,h0];simp),if_pos trivial];exact ih (a+1) _ x B (by omega) hd hf (hm.mark _ _ _) hx
end Go.Proofs.YtfkhljmiehdgmaaGreatDoor.Pl
