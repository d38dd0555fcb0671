/-
  Steps of the proof.
-/
import Derived.Test.YtfkhljmiehdgmaaGreatDoorCuAC
import Derived.Maps.OwnOps
namespace Go.Proofs.YtfkhljmiehdgmaaGreatDoor
open Go.RowKit Go.Proofs.Tryz Pl
namespace Pl
deriving instance DecidableEq for St,Mk,Sx
structure Src where
 name:zU
 parts:List Pt
abbrev En:=Nat×Sx
structure Ft where
 code:Nat
 kind:Int
 place:zU
 pos:Nat
def Ft.none:Ft:=⟨0,0,[],0⟩
structure Sr where
 ends:List (En×Sx)
 nums:List (En×Nat)
 vis:List (Nat×List Int)
 fault:Ft
def Sx.none:Sx:=⟨⟨0,[],[],0,0,false⟩,Mk.none⟩
def Sx.isNone(x:Sx):Bool:=x.st.mode==0
def qa9{α:Type}:List (En×α)->En->Option α
 |[],_=>Option.none
 |(k,v)::l,e=>if k=e then some v else qa9 l e
def qbi{α:Type}:List (En×α)->En->α->List (En×α)
 |[],e,v=>[(e,v)]
 |(k,u)::l,e,v=>if k=e then(e,v)::l else(k,u)::qbi l e v
def qh4(n:zU):Nat->List Src->Nat
 |_,[]=>0
 |i,s::l=>if s.name=n then i else qh4 n (i+1) l
def qaj(S:List Src)(n:zU):Nat:=qh4 n 1 (S.drop 1)
def qah(S:List Src)(i:Nat):List Pt:=match S[i]? with
 |some s=>s.parts
 |Option.none=>[]
def qom(S:List Src)(i:Nat):zU:=match S[i]? with
 |some s=>s.name
 |Option.none=>[]
def qd7(beh:Sr->zU->Sx->Sr×Sx)(P:List Pt):Nat->Nat->Sr->Sx->Sr×Sx
 |0,_,s,x=>(s,x)
 |n+1,a,s,x=>
   if x.isNone=true then(s,x)else
   match P[a]? with
   |Option.none=>(s,x)
   |some p=>
     if p.kind=1 then qd7 beh P n (a+1) s (qax x p.text)
     else if p.kind=2 then qd7 beh P n (a+1) s x.behindHole
     else if p.kind=3\/p.kind=4 then qd7 beh P n (p.mate+1) s x
     else if p.kind=6 then qd7 beh P n (a+1) (beh s p.text x).1 (beh s p.text x).2
     else qd7 beh P n (a+1) s x
def qtd:Ft:=⟨3,0,[],0⟩
def behV(S:List Src):Nat->Sr->zU->Sx->Sr×Sx
 |0,s,_,x=>(s,x)
 |k+1,s,n,x=>
   if qaj S n=0 then(s,x)else
   match qa9 s.ends (qaj S n,x)with
   |some e=>(s,e)
   |Option.none=>
     if s.ends.length=256 then({ s with fault:=qtd },Sx.none)else
     let P:=qah S (qaj S n)
     let r:=qd7 (behV S k) P (P.length+1) 0 { s with ends:=qbi s.ends (qaj S n,x) Sx.none } x
     ({ r.1 with ends:=qbi r.1.ends (qaj S n,x) r.2 },r.2)
def qcy:Sx->zU->Option Nat
 |_,[]=>Option.none
 |x,b::l=>if qcd x.st.kind x.st.mode x.ma.far b=true then some 0 else(qcy (x.behind b) l).map (·+ 1)
def Sr.wrong(s:Sr)(S:List Src)(i:Nat)(kind:Int)(pos:Nat):Sr:={ s with fault:=⟨3,kind,qom S i,pos⟩ }
def Sr.mark(s:Sr)(v a:Nat)(m:Int):Sr:={ s with vis:=s.vis.modify v fun x=>(x.1,x.2.set a m) }
def qhc(s:Sr)(e:En):Nat:=(qa9 s.nums e).getD 0
def goV(nm:Sr->zU->Sx->Sr×Nat×Sx)(S:List Src)(i v:Nat)(P:List Pt):Nat->Nat->Sr->Sx->List (Sx×Nat)->Sr
 |0,_,s,_,_=>s
 |n+1,a,s,x,B=>
   match P[a]? with
   |Option.none=>s
   |some p=>
     if p.kind=1 then
      (match qcy x p.text with
       |some j=>s.wrong S i 14 (p.pos+j)
       | Option.none=>goV nm S i v P n (a+1) s (qax x p.text) B)
     else if p.kind=2 then
      (if x.hole.2≠0 then s.wrong S i x.hole.2 p.pos else goV nm S i v P n (a+1) (s.mark v a x.hole.1) x.behindHole B)
     else if p.kind=3\/p.kind=4 then goV nm S i v P n (a+1) s x (B++[(x,p.mate)])
     else if p.kind=5 then
      (match B.getLast? with
       |Option.none=>s
       | some b=>if x≠b.1 then s.wrong S i 13 (qk2 P p.mate) else goV nm S i v P n (a+1) s x B.dropLast)
     else if p.kind=6 then
      let r:=nm s p.text x
      let s1:=r.1.mark v a r.2.1
      if s1.fault.code≠0\/(r.2.2.isNone=true/\B=[])then s1
      else if r.2.2.isNone=false then goV nm S i v P n (a+1) s1 r.2.2 B
      else(match B.getLast? with
       |Option.none=>s1
       | some b=>goV nm S i v P n b.2 s1 b.1 B)
     else goV nm S i v P n (a+1) s x B
def qev(S:List Src):Nat->Sr->En->Sr
 |0,s,_=>s
 |k+1,s,e=>
   let P:=qah S e.1
   let nm:=fun(s:Sr) (n:zU) (x:Sx)=>
    let r:=behV S 257 s n x
    if qaj S n=0\/r.1.fault.code≠0 then(r.1,0,r.2)
    else if qhc r.1 (qaj S n,x)=0 then
     (qev S k r.1 (qaj S n,x),qhc (qev S k r.1 (qaj S n,x)) (qaj S n,x),r.2)
    else(r.1,qhc r.1 (qaj S n,x),r.2)
   goV nm S e.1 s.vis.length P (P.length+1) 0 { s with nums:=qbi s.nums e s.vis.length,vis:=s.vis++[(e.1,List.replicate P.length 0)] } e.2 []
def qew(S:List Src)(len:Nat):List (Nat×List Int)×Ft:=
 let s:=qev S 258 ⟨[],[],[],Ft.none⟩ (0,Sx.start)
 if s.fault.code≠0 then([],s.fault)else
 let P:=qah S 0
 let r:=qd7 (behV S 257) P (P.length+1) 0 s Sx.start
 if r.2.isNone=false/\r.2≠Sx.start then([],⟨3,15,qom S 0,len⟩)
 else if r.1.fault.code≠0 then([],r.1.fault)else(r.1.vis,Ft.none)
def qhn:List zU->Bool
 |[]=>true
 |n::l=>qa4 n && (!l.contains n && qhn l)
def qa5:List (zU×zU)->Ft×List Src
 |[]=>(Ft.none,[])
 | (n,t)::l=>if(qam t).1.1≠0 then(⟨2,(qam t).1.1,n,(qam t).1.2⟩,[])
   else if(qa5 l).1.code≠0 then((qa5 l).1,[])else(Ft.none,⟨n,(qam t).2⟩::(qa5 l).2)
def qc5(t:zU)(L:List (zU×zU)):(List (Nat×List Int)×List Src)×Ft:=
 if 6<L.length\/qhn (L.map (·.1))=false then(([],[]),⟨1,0,[],0⟩)else
 if(qa5 (([],t)::L)).1.code≠0 then(([],[]),(qa5 (([],t)::L)).1)else
 if(qew (qa5 (([],t)::L)).2 t.length).2.code≠0 then(([],[]),(qew (qa5 (([],t)::L)).2 t.length).2)
 else(((qew (qa5 (([],t)::L)).2 t.length).1,(qa5 (([],t)::L)).2),Ft.none)
variable{o:Nat}{l:List Pt}{x:Sx}
def qfm(x:Sx)(B:List Sx)(p:Pt):Option (Sx×List Sx):=
 if p.kind=1 then(match qcy x p.text with
  |some _=>Option.none
  | Option.none=>some (qax x p.text,B))
 else if p.kind=2 then(if x.hole.2=0 then some (x.behindHole,B)else Option.none)
 else if p.kind=3\/p.kind=4 then some (x,B++[x])
 else if p.kind=5 then(match B.getLast? with
  |Option.none=>Option.none
  | some b=>if x=b then some (x,B.dropLast) else Option.none)
 else some (x,B)
def qeu:List Pt->Sx->List Sx->Option (Sx×List Sx)
 |[],x,B=>some (x,B)
 |p::l,x,B=>(qfm x B p).bind fun y=>qeu l y.1 y.2
theorem qk7(l m:List Pt):∀(x:Sx) (B:List Sx),qeu (l++m) x B=(qeu l x B).bind fun y=>qeu m y.1 y.2:=by
 induction l with
 |nil=>intro x B;rfl
 |cons p l ih=>
   intro x B;show(qfm x B p).bind _=((qfm x B p).bind _).bind _;cases qfm x B p with
   |none=>rfl
   |some y=>exact ih y.1 y.2
def deep:List Pt->Nat->Bool
 |[],_=>true
 |p::l,d=>if p.kind=3\/p.kind=4 then deep l (d+1)else if p.kind=5 then decide (d≠0) && deep l (d - 1)else deep l d
theorem q96(h:Wf o l):∀(m:List Pt) (d:Nat),deep m d=true->deep (l++m) d=true:=by
 induction h with
 |nil o=>intro m d h;exact h
 |leaf o p l hk _ ih=>
   intro m d h;show deep (p::(l++m)) d=true;unfold deep;rw[if_neg (by omega),if_neg (by omega)];exact ih m d h
 |sec o p q b l hp hq h1 h2 hb _ ihb ihl=>
   intro m d h;have e:p::b++q::l++m=p::(b++(q::(l++m))):=by simp
   rw[e];unfold deep;rw[if_pos hp];refine ihb _ _ ?_;unfold deep;rw[if_neg (by omega),if_pos hq];simp only[ne_eq,Nat.add_eq_zero_iff,Nat.succ_ne_self,and_false,not_false_eq_true,decide_true,Bool.true_and,Nat.add_sub_cancel];exact ihl m d h
theorem qo5(h:Wf o l):∀p∈l,1<=p.kind/\p.kind<=6:=by
 induction h with
 |nil o=>intro p y;cases y
 |leaf o p l hk _ ih=>
   intro q z;rcases xt.1 z with rfl|z
   ·omega
   ·exact ih q z
 |sec o p q b l y z h1 h2 hb _ ihb ihl=>
   intro r D;simp only[xB,xt,yn]at D;rcases D with rfl|D|rfl|D
   ·omega
   ·exact ihb r D
   ·omega
   ·exact ihl r D
theorem q0j{l:zU}{j:Nat}(h:qcy x l=some j):j<l.length:=by
 induction l generalizing x j with
 |nil=>cases h
 |cons b l ih=>
   unfold qcy at h;split at h
   ·injection h with h;subst h;simp
   ·obtain⟨k,y,rfl⟩:=yy.1 h
    have:=ih y;simp;omega
structure Marks(s s':Sr):Prop where
 ends:s'.ends=s.ends
 nums:s'.nums=s.nums
 vis:s'.vis.length=s.vis.length
theorem Marks.refl(s:Sr):Marks s s:=⟨rfl,rfl,rfl⟩
theorem Marks.mark{s s':Sr}(h:Marks s s')(v a:Nat)(m:Int):Marks s (s'.mark v a m):=⟨h.ends,h.nums,by unfold Sr.mark;simp[h.vis]⟩
theorem q5o(s:Sr)(v a:Nat)(m:Int):(s.mark v a m).fault=s.fault:=rfl
theorem qmp(h:SxOk x):x.isNone=false:=by
 have:=h.st.lo;unfold Sx.isNone;rw[yf];omega
theorem qsh{B:List Sx}{p:Pt}{y:Sx×List Sx}(h:SxOk x)(z:qfm x B p=some y):SxOk y.1:=by
 unfold qfm at z;split at z
 ·split at z
  ·cases z
  ·injection z with z;subst z;exact qwn _ _ h
 ·split at z
  ·split at z
   ·injection z with z;subst z;exact qi9 _ h
   ·cases z
  ·split at z
   ·injection z with z;subst z;exact h
   ·split at z
    ·split at z
     ·cases z
     ·split at z
      ·injection z with z;subst z;exact h
      ·cases z
    ·injection z with z;subst z;exact h
theorem qym{α:Type}{P:List α}{a:Nat}{p:α}(h:P[a]?=some p):P.drop a=p::P.drop (a+1):=by
 obtain⟨y,z⟩:=yb.1 h;rw[yo y,z]
theorem q46(P:List Pt)(m:Nat)(y:P≠[]):∃p∈P,qk2 P m=p.pos\/qk2 P m=0:=by
 unfold qk2;cases h:P[m]? with
 |none=>
   cases P with
   |nil=>exact absurd rfl y
   |cons p l=>exact⟨p,by simp,.inr rfl⟩
 |some p=>exact⟨p,yl h,.inl rfl⟩
def zdv(S:List Src)(i:Nat)(P:List Pt)(s0:Sr)(r:Option (Sx×List Sx))(s:Sr):Prop:=
 match r with
 |some _=>s.fault=s0.fault/\Marks s0 s
 |Option.none=>s.fault.code=3/\s.fault.place=qom S i/\(s.fault.pos=0\/∃p∈P,s.fault.pos=p.pos\/(p.kind=1/\s.fault.pos<p.pos+p.text.length))
theorem zcw(nm:Sr->zU->Sx->Sr×Nat×Sx)(S:List Src)(i v:Nat)(P:List Pt)(T:∀p∈P,1<=p.kind/\p.kind<=6)(D:∀p∈P,p.kind=6->∀s x,nm s p.text x=(s,0,x))(s0:Sr)(U:s0.fault.code=0) :
  ∀(n a:Nat) (s:Sr) (x:Sx) (B:List (Sx×Nat)),P.length - a<n->deep (P.drop a) B.length=true->s.fault=s0.fault->Marks s0 s->SxOk x ->
  zdv S i P s0 (qeu (P.drop a) x (B.map (·.1))) (goV nm S i v P n a s x B):=by
 intro n
 induction n with
 |zero=>intro a s x B h;omega
 |succ n ih=>
   intro a s x B V hd X Y Z;unfold goV;cases hp:P[a]? with
   |none=>
     have:P.length<=a:=by simpa using hp
     rw[List.drop_eq_nil_of_le this];exact⟨X,Y⟩
   |some p=>
     have J:a<P.length:=(yb.1 hp).1;have z:p∈P:=yl hp;have O:=T p z;rw[qym hp]at hd |-;show zdv S i P s0 ((qfm x (B.map (·.1)) p).bind fun y=>qeu (P.drop (a+1)) y.1 y.2) _;unfold deep at hd;unfold qfm;simp only;by_cases k1:p.kind=1
     ·rw[if_pos k1,if_pos k1]
      rw[if_neg (by omega),if_neg (by omega)]at hd;cases hs:qcy x p.text with
      |some j=>
        exact⟨rfl,rfl,.inr ⟨p,z,.inr ⟨k1,by have:=q0j hs;show p.pos+j<_;omega⟩⟩⟩
      |none=>exact ih (a+1) s _ B (by omega) hd X Y (qwn _ _ Z)
     rw[if_neg k1,if_neg k1];by_cases k2:p.kind=2
     ·rw[if_pos k2,if_pos k2]
      rw[if_neg (by omega),if_neg (by omega)]at hd;by_cases hh:x.hole.2=0
      ·rw[if_pos hh,if_neg (fun q=>q hh)]
       exact ih (a+1) _ _ B (by omega) hd X (Y.mark _ _ _) (qi9 _ Z)
      ·rw[if_neg hh,if_pos hh]
       exact⟨rfl,rfl,.inr ⟨p,z,.inl rfl⟩⟩
     rw[if_neg k2,if_neg k2];by_cases k3:p.kind=3\/p.kind=4
     ·rw[if_pos k3,if_pos k3]
      rw[if_pos k3]at hd;have:=ih (a+1) s x (B++[(x,p.mate)]) (by omega) (by simpa using hd) X Y Z;rw[yG]at this;exact this
     rw[if_neg k3,if_neg k3];rw[if_neg k3]at hd;by_cases k5:p.kind=5
     ·rw[if_pos k5,if_pos k5]
      rw[if_pos k5]at hd;simp only[ne_eq,yL,yN]at hd;cases hB:B.getLast? with
      |none=>
        rw[List.getLast?_eq_none_iff]at hB;subst hB;exact absurd rfl hd.1
      |some b=>
        have I:(B.map (·.1)).getLast?=some b.1:=by rw[List.getLast?_map,hB];rfl
        simp only[I];by_cases hb:x=b.1
        ·rw[if_pos hb,if_neg (fun q=>q hb)]
         have:=ih (a+1) s x B.dropLast (by omega) (by simpa using hd.2) X Y Z;rw[List.map_dropLast]at this;exact this
        ·rw[if_neg hb,if_pos hb]
         refine⟨rfl,rfl,?_⟩;obtain⟨q,hq,h|h⟩:=q46 P p.mate (fun e=>by rw[e]at z;cases z)
         ·exact .inr ⟨q,hq,.inl h⟩
         ·exact .inl h
     rw[if_neg k5,if_neg k5];have k6:p.kind=6:=by omega
     rw[if_pos k6,D p z k6];rw[if_neg k5]at hd;simp only[qmp Z];rw[if_neg (by rw[q5o,X,U];simp),if_pos trivial];exact ih (a+1) _ x B (by omega) hd X (Y.mark _ _ _) Z
variable{o:Nat}{l:List Pt}
theorem q9m(h:Wf o l):∀(x:Sx) (B:List Sx) (y:Sx×List Sx),qeu l x B=some y->y.2=B:=by
 induction h with
 |nil o=>intro x B y h;injection h with h;subst h;rfl
 |leaf o p l hk _ ih=>
   intro x B y h;obtain⟨z,D,I⟩:=xy.1 h;rw[ih _ _ _ I];unfold qfm at D;split at D
   ·split at D
    ·cases D
    ·injection D with D;subst D;rfl
   ·split at D
    ·split at D
     ·injection D with D;subst D;rfl
     ·cases D
    ·rw[if_neg (by omega),if_neg (by omega)]at D
     injection D with D;subst D;rfl
 |sec o p q b l hp hq D I hb _ ihb ihl=>
   intro x B y h;have e:p::b++q::l=p::(b++(q::l)):=by simp
   rw[e]at h;obtain⟨z,g1,g2⟩:=xy.1 h;unfold qfm at g1;rw[if_neg (by omega),if_neg (by omega),if_pos hp]at g1;injection g1 with g1;subst g1;rw[qk7]at g2;obtain⟨u,g3,g4⟩:=xy.1 g2;have J:=ihb _ _ _ g3;obtain⟨u1,u2⟩:=u;simp only at J g4;subst J;obtain⟨v,g5,g6⟩:=xy.1 g4;unfold qfm at g5;rw[if_neg (by omega),if_neg (by omega),if_neg (by omega),if_pos hq,List.getLast?_concat,List.dropLast_concat]at g5;simp only at g5;split at g5
   ·injection g5 with g5;subst g5
    exact ihl _ _ _ g6
   ·cases g5
theorem zcy{p q:Pt}{b:List Pt}(D:p.kind=3\/p.kind=4)(I:q.kind=5)(J:Wf o b){x:Sx}{B:List Sx}{y:Sx×List Sx}(h:qeu (p::b++q::l) x B=some y):qeu l x B=some y:=by
 have e:p::b++q::l=p::(b++(q::l)):=by simp
 rw[e]at h;obtain⟨z,g1,g2⟩:=xy.1 h;unfold qfm at g1;rw[if_neg (by omega),if_neg (by omega),if_pos D]at g1;injection g1 with g1;subst g1;rw[qk7]at g2;obtain⟨u,g3,g4⟩:=xy.1 g2;have O:=q9m J _ _ _ g3;obtain⟨u1,u2⟩:=u;simp only at O g4;subst O;obtain⟨v,g5,g6⟩:=xy.1 g4;unfold qfm at g5;rw[if_neg (by omega),if_neg (by omega),if_neg (by omega),if_pos I,List.getLast?_concat,List.dropLast_concat]at g5;simp only at g5;split at g5
 ·rename_i T
  injection g5 with g5;subst g5;simp only at g6;rw[T]at g6;exact g6
 ·cases g5
theorem q3p{α:Type}{P l:List α}{p:α}(h:P.drop o=p::l):P[o]?=some p/\P.drop (o+1)=l:=by
 have y:P[o]?=some p:=by
  have:=yE (·[0]?) h;simpa using this
 refine⟨y,?_⟩;have:=qym y;rw[h]at this;exact((List.cons.injEq _ _ _ _).mp this).2.symm
theorem q35(beh:Sr->zU->Sx->Sr×Sx){o:Nat}{l:List Pt}(h:Wf o l):∀(P:List Pt),P.drop o=l->(∀p∈P,p.kind=6->∀s x,beh s p.text x=(s,x)) ->
  ∀(n:Nat) (s:Sr) (x:Sx) (B:List Sx) (y:Sx×List Sx),l.length<n->SxOk x->qeu l x B=some y->qd7 beh P n o s x=(s,y.1):=by
 induction h with
 |nil o=>
   intro P U D n s x B y V X h;injection h with h;subst h;obtain⟨n,rfl⟩:∃k,n=k+1:=⟨n - 1,by simp at V;omega⟩;unfold qd7;have:P[o]?=Option.none:=by simpa using U
   rw[this,qmp X];rfl
 |leaf o p l hk _ ih=>
   intro P U D n s x B y V X h;obtain⟨z,Y,Z⟩:=xy.1 h;obtain⟨hp,hd⟩:=q3p U;have hz:=qsh X Y;obtain⟨n,rfl⟩:∃k,n=k+1:=⟨n - 1,by simp at V;omega⟩;have I:l.length<n:=by simp at V;omega
   unfold qd7;rw[hp,qmp X];unfold qfm at Y;simp only[Bool.false_eq_true,if_false];by_cases k1:p.kind=1
   ·rw[if_pos k1]at Y |-
    split at Y
    ·cases Y
    ·injection Y with Y;subst Y
     exact ih P hd D n s _ _ y I hz Z
   rw[if_neg k1]at Y |-;by_cases k2:p.kind=2
   ·rw[if_pos k2]at Y |-
    split at Y
    ·injection Y with Y;subst Y
     exact ih P hd D n s _ _ y I hz Z
    ·cases Y
   rw[if_neg k2,if_neg (by omega),if_neg (by omega)]at Y;rw[if_neg k2,if_neg (by omega),if_pos (by omega),D p (yl hp) (by omega)];injection Y with Y;subst Y;exact ih P hd D n s _ _ y I hz Z
 |sec o p q b l hp hq Y Z hb _ ihb ihl=>
   intro P U D n s x B y V X h;have e:p::b++q::l=p::(b++(q::l)):=by simp
   have J:=U;rw[e]at J;obtain⟨O,hd⟩:=q3p J;obtain⟨n,rfl⟩:∃k,n=k+1:=⟨n - 1,by simp at V;omega⟩;have T:P.drop (o+b.length+2)=l:=by
    have:P.drop (o+1+b.length+1)=l:=by
     rw[Nat.add_assoc (o+1),<-yD,hd,<-yD,List.drop_left];rfl
    rw[show o+b.length+2=o+1+b.length+1 by omega];exact this
   unfold qd7;rw[O,qmp X];simp only[Bool.false_eq_true,if_false];rw[if_neg (by omega),if_neg (by omega),if_pos hp,Y,show o+1+b.length+1=o+b.length+2 by omega];exact ihl P T D n s x B y (by simp at V;omega) X (zcy hp hq hb h)
theorem qro(S:List Src)(k:Nat)(s:Sr)(n:zU)(x:Sx)(h:qaj S n=0):behV S k s n x=(s,x):=by
 cases k with
 |zero=>rfl
 |succ k=>unfold behV;rw[if_pos h]
def nmV(S:List Src)(k:Nat)(s:Sr)(n:zU)(x:Sx):Sr×Nat×Sx:=
 let r:=behV S 257 s n x
 if qaj S n=0\/r.1.fault.code≠0 then(r.1,0,r.2)
 else if qhc r.1 (qaj S n,x)=0 then
  (qev S k r.1 (qaj S n,x),qhc (qev S k r.1 (qaj S n,x)) (qaj S n,x),r.2)
 else(r.1,qhc r.1 (qaj S n,x),r.2)
theorem q5j(S:List Src)(k:Nat)(s:Sr)(n:zU)(x:Sx)(h:qaj S n=0):nmV S k s n x=(s,0,x):=by
 unfold nmV;rw[qro S _ s n x h];simp only;rw[if_pos (.inl h)]
def begun(S:List Src)(s:Sr)(e:En):Sr:={ s with nums:=qbi s.nums e s.vis.length,vis:=s.vis++[(e.1,List.replicate (qah S e.1).length 0)] }
theorem qug(S:List Src)(k:Nat)(s:Sr)(e:En):qev S (k+1) s e=goV (nmV S k) S e.1 s.vis.length (qah S e.1) ((qah S e.1).length+1) 0 (begun S s e) e.2 []:=by
 conv=>lhs;unfold qev
 rfl
def q3z(S:List Src)(P:List Pt):Prop:=∀p∈P,p.kind=6->qaj S p.text=0
theorem qz4(S:List Src)(k:Nat)(s:Sr)(e:En)(y:Wf 0 (qah S e.1))(z:q3z S (qah S e.1))(D:s.fault.code=0)(I:SxOk e.2) :
  zdv S e.1 (qah S e.1) (begun S s e) (qeu (qah S e.1) e.2 []) (qev S (k+1) s e):=by
 rw[qug]
 have:=zcw (nmV S k) S e.1 s.vis.length (qah S e.1) (qo5 y) (fun p J O s x=>q5j S k s _ x (z p J O)) (begun S s e) D ((qah S e.1).length+1) 0 (begun S s e) e.2 [] (by omega)
  (by rw[List.drop_zero];have:=q96 y [] 0 rfl;simpa using this) rfl (Marks.refl _) I
 rw[List.drop_zero]at this;exact this
theorem qzt(S:List Src)(k:Nat)(s:Sr)(P:List Pt)(z:Wf 0 P)(D:q3z S P)(x:Sx)(I:SxOk x)(B:List Sx)(y:Sx×List Sx)(h:qeu P x B=some y):qd7 (behV S k) P (P.length+1) 0 s x=(s,y.1):=
 q35 (behV S k) z P rfl (fun p J O s x=>qro S k s _ x (D p J O)) _ s x B y (by omega) I h
theorem q08(S:List Src)(len:Nat)(J:Wf 0 (qah S 0))(O:q3z S (qah S 0)) :
  match qeu (qah S 0) Sx.start []with
  |some y=>(y.1=Sx.start->(qew S len).2=Ft.none/\(qew S len).1.length=1)/\(y.1≠Sx.start->(qew S len).2=⟨3,15,qom S 0,len⟩)
  |Option.none=>(qew S len).2.code=3/\(qew S len).2.place=qom S 0/\((qew S len).2.pos=0\/∃p∈qah S 0,(qew S len).2.pos=p.pos\/(p.kind=1/\(qew S len).2.pos<p.pos+p.text.length)):=by
 have h:=qz4 S 257 ⟨[],[],[],Ft.none⟩ (0,Sx.start) J O rfl qkj;unfold qew;simp only;generalize qev S 258 ⟨[],[],[],Ft.none⟩ (0,Sx.start)=s at h;unfold zdv at h;cases T:qeu (qah S 0) Sx.start []with
 |none=>
   simp only[T]at h |-;have:s.fault.code≠0:=by rw[h.1];decide
   rw[if_pos this];exact h
 |some y=>
   simp only[T]at h |-;have U:s.fault.code=0:=by rw[h.1];rfl
   have D:=qzt S 257 s _ J O Sx.start qkj [] y T;rw[if_neg (by rw[U];simp),D];have V:SxOk y.1:=by
    clear D h U;have I:∀(l:List Pt) (x:Sx) (B:List Sx) (y:Sx×List Sx),SxOk x->qeu l x B=some y->SxOk y.1:=by
     intro l
     induction l with
     |nil=>intro x B y X h;injection h with h;subst h;exact X
     |cons p l ih=>
       intro x B y X h;obtain⟨z,Y,Z⟩:=xy.1 h;exact ih _ _ _ (qsh X Y) Z
    exact I _ _ _ _ qkj T
   refine⟨fun e=>?_,fun e=>?_⟩
   ·rw[if_neg (fun q=>q.2 e),if_neg (by rw[U];simp)]
    refine⟨rfl,?_⟩;rw[h.2.vis];rfl
   ·rw[if_pos ⟨qmp V,e⟩]
variable{c d:Ct}{a:Nat}
theorem zaf(t:zU):∀(n m:Nat) (c:Ct) (a:Nat),CtOk t c a->t.length - a<n->t.length - a<m->Ct.go t n c a=Ct.go t m c a:=by
 intro n
 induction n with
 |zero=>intro m c a _ h _;omega
 |succ n ih=>
   intro m c a y z D;obtain⟨m,rfl⟩:∃k,m=k+1:=⟨m - 1,by omega⟩;unfold Ct.go;cases I:c.step t a with
   |slip k p=>rfl
   |over d=>rfl
   |next d b=>
     obtain⟨J,O⟩:=qhj y I;have:=J.le;exact ih m d b J (by omega) (by omega)
def Ct.rest(t:zU)(c:Ct)(a:Nat):(Nat×Nat)×List Pt:=Ct.go t (t.length - a+1) c a
theorem qw0{t:zU}{b:Nat}(h:CtOk t c a)(y:c.step t a=.next d b):c.rest t a=d.rest t b:=by
 obtain⟨z,D⟩:=qhj h y;have:=z.le;unfold Ct.rest;have e:Ct.go t (t.length - a+1) c a=Ct.go t (t.length - a) d b:=by
  conv=>lhs;unfold Ct.go
  rw[y]
 rw[e];exact zaf t _ _ d b z (by omega) (by omega)
theorem qfo{t:zU}{k p:Nat}(y:c.step t a=.slip k p):c.rest t a=((k,p),[]):=by
 unfold Ct.rest Ct.go;rw[y]
theorem qwz{t:zU}(y:c.step t a=.over d):c.rest t a=(d.left,d.parts):=by
 unfold Ct.rest Ct.go;rw[y]
theorem qrg(t:zU)(h:t.length<=2000):qam t=if(Ct.start.rest t 0).1.1=0 then((0,0),(Ct.start.rest t 0).2)else((Ct.start.rest t 0).1,[]):=by
 unfold qam Ct.rest;rw[if_neg (by omega)];rfl
theorem qmh{t:zU}(h:(Go.Lib.cut (t.drop a) c.op).2.2=false):c.step t a=.over (c.addText t a t.length):=by
 unfold Ct.step;rw[if_pos h]
theorem qgt{t:zU}(h:(Go.Lib.cut (t.drop a) c.op).2.2=true)(y:(Go.Lib.cut (Go.Lib.cut (t.drop a) c.op).2.1 c.cl).2.2=false):c.step t a=.slip 2 (a+(Go.Lib.cut (t.drop a) c.op).1.length):=by
 unfold Ct.step;rw[if_neg (by rw[h];simp)];simp only[y,if_true]
theorem qpa{t:zU}(h:(Go.Lib.cut (t.drop a) c.op).2.2=true)(z:(Go.Lib.cut (Go.Lib.cut (t.drop a) c.op).2.1 c.cl).2.2=true)(one:Tg)(D:qba (Go.Lib.trimS (Go.Lib.cut (Go.Lib.cut (t.drop a) c.op).2.1 c.cl).1 qag)=one)
  (p tz:Nat) (I:a+(Go.Lib.cut (t.drop a) c.op).1.length=p) (y:p+c.op.length+(Go.Lib.cut (Go.Lib.cut (t.drop a) c.op).2.1 c.cl).1.length+c.cl.length=tz) (o:Nat×Nat) (J:(if one.kind≠2 then qel t p tz else(p,tz))=o) :
  c.step t a=if((c.addText t a o.1).take one p).1≠0 then .slip ((c.addText t a o.1).take one p).1 p else .next ((c.addText t a o.1).take one p).2 o.2:=by
 subst J y I D;unfold Ct.step;rw[if_neg (by rw[h];simp)];simp only[z,Bool.true_eq_false,if_false]
theorem q0q(l:zU):(qba l).kind=qay l:=by
 have y:∀k n,(qcc k n).kind=k:=by
  intro k n;unfold qcc;split<;>split<;>rfl
 unfold qba;by_cases z:qay l=7
 ·rw[if_pos z,z]
 rw[if_neg z];by_cases D:qay l=8
 ·rw[if_pos D,D]
  unfold qdc;split
  ·rfl
  ·split
   ·split<;>rfl
   ·rfl
 rw[if_neg D];split
 ·rename_i I;rw[y,I]
 ·exact y _ _
deriving instance DecidableEq for Tg
variable{c:Ct}{a:Nat}
structure PtIn(t:zU)(p:Pt):Prop where
 pos:p.pos<=t.length
 text:p.kind=1->p.pos+p.text.length<=t.length
 name:p.kind=6->p.text <:+: t
theorem qt0{t:zU}{z:Nat}(h:∀p∈c.parts,PtIn t p)(y:a<=t.length):∀p∈(c.addText t a z).parts,PtIn t p:=by
 unfold Ct.addText;split
 ·intro p D
  simp only[yn,yv]at D;rcases D with D|rfl
  ·exact h p D
  ·refine⟨y,fun _=>?_,fun e=>by cases e⟩
   simp only[yP,yM];omega
 ·exact h
theorem q4r{t:zU}{l:List Pt}(m n:Nat)(h:∀p∈l,PtIn t p):∀p∈qbd l m n,PtIn t p:=by
 induction l generalizing m with
 |nil=>unfold qbd;simp
 |cons q l ih=>
   cases m with
   |zero=>
     intro p y;have e:qbd (q::l) 0 n={ q with mate:=n }::l:=rfl;rw[e]at y;rcases xt.1 y with rfl|y
     ·have:=h q (by simp);exact⟨this.pos,this.text,this.name⟩
     ·exact h p (yX _ y)
   |succ m=>
     intro p y;have e:qbd (q::l) (m+1) n=q::qbd l m n:=by simp[qbd]
     rw[e]at y;rcases xt.1 y with rfl|y
     ·exact h p (by simp)
     ·exact ih m (fun r z=>h r (yX _ z)) p y
theorem zex{t:zU}{one:Tg}(h:∀p∈c.parts,PtIn t p)(I:a<=t.length)(J:one.kind≠1)(O:one.kind=6->one.name <:+: t):∀p∈(c.take one a).2.parts,PtIn t p:=by
 have z:PtIn t ⟨one.kind,a,one.name,0⟩:=⟨I,fun e=>absurd e J,O⟩;have y:∀(l:List Pt) (q:Pt),(∀p∈l,PtIn t p)->PtIn t q->∀p∈l++[q],PtIn t p:=fun l q T U p V=>by
  simp only[yn,yv]at V;rcases V with V|rfl
  ·exact T p V
  ·exact U
 unfold Ct.take;by_cases X:one.slip≠0
 ·rw[if_pos X];exact h
 rw[if_neg X];by_cases Y:one.kind=7
 ·rw[if_pos Y];exact h
 rw[if_neg Y];by_cases Z:one.kind=8
 ·rw[if_pos Z];exact h
 rw[if_neg Z];by_cases D:one.kind=3\/one.kind=4
 ·rw[if_pos D]
  split
  ·exact h
  ·exact y _ _ h z
 rw[if_neg D];by_cases h5:one.kind=5
 ·rw[if_pos h5]
  split
  ·exact h
  ·rename_i m _
   split
   ·exact h
   ·exact y _ _ (q4r _ _ h) ⟨I,(fun e=>by cases e),(fun e=>by cases e)⟩
 ·rw[if_neg h5]
  exact y _ _ h z
theorem qpy(l cs:zU):Go.Lib.trimS l cs <:+: l:=by
 unfold Go.Lib.trimS Go.Lib.trimLeftS Go.Lib.trimRightS;refine(List.dropWhile_suffix _).isInfix.trans ?_;have:=(List.dropWhile_suffix (cs.contains ·) (l:=l.reverse)).isInfix;rw[<-List.reverse_infix,List.reverse_reverse];exact this
theorem q0p(l:zU)(h:(qba l).kind=6):(qba l).name <:+: l:=by
 rw[q0q]at h;unfold qba;rw[if_neg (by omega),if_neg (by omega),if_neg (by omega)];unfold qcc;rw[if_pos h];split
 ·unfold Go.Lib.trimLeftS
  exact(List.dropWhile_suffix _).isInfix.trans (List.drop_suffix _ _).isInfix
 ·exact List.nil_infix
theorem ze3{t:zU}(hc:CtOk t c a)(h:∀p∈c.parts,PtIn t p) :
  (∀k p,c.step t a=.slip k p->p<=t.length)/\(∀d,c.step t a=.over d->∀p∈d.parts,PtIn t p)/\(∀d b,c.step t a=.next d b->∀p∈d.parts,PtIn t p):=by
 have D:=hc.le;cases y:(Go.Lib.cut (t.drop a) c.op).2.2 with
 |false=>
   rw[qmh y];refine⟨fun k p e=>(by cases e),fun d e=>?_,fun d b e=>(by cases e)⟩;injection e with e;subst e;exact qt0 h D
 |true=>
   obtain⟨i1,U,I,V,J,X⟩:=qj8 _ _ y;rw[yM]at I;cases z:(Go.Lib.cut (Go.Lib.cut (t.drop a) c.op).2.1 c.cl).2.2 with
   |false=>
     rw[qgt y z];refine⟨fun k p e=>?_,fun d e=>(by cases e),fun d b e=>(by cases e)⟩;injection e with e1 e2;omega
   |true=>
     obtain⟨i2,Y,Z,O,ha,Ha⟩:=qj8 _ _ z;obtain⟨one,h1⟩:∃one,qba (Go.Lib.trimS (Go.Lib.cut (Go.Lib.cut (t.drop a) c.op).2.1 c.cl).1 qag)=one:=⟨_,rfl⟩;have ho:=qqh (Go.Lib.trimS (Go.Lib.cut (Go.Lib.cut (t.drop a) c.op).2.1 c.cl).1 qag);have hn:=q0p (Go.Lib.trimS (Go.Lib.cut (Go.Lib.cut (t.drop a) c.op).2.1 c.cl).1 qag);have T:Go.Lib.trimS (Go.Lib.cut (Go.Lib.cut (t.drop a) c.op).2.1 c.cl).1 qag <:+: t:=by
      refine(qpy _ _).trans ?_;rw[O];refine(List.take_prefix _ _).isInfix.trans ?_;rw[J];exact(List.drop_suffix _ _).isInfix.trans (List.drop_suffix _ _).isInfix
     rw[h1]at ho hn;generalize hO:(if one.kind≠2 then qel t (a+(Go.Lib.cut (t.drop a) c.op).1.length) (a+(Go.Lib.cut (t.drop a) c.op).1.length+c.op.length+(Go.Lib.cut (Go.Lib.cut (t.drop a) c.op).2.1 c.cl).1.length+c.cl.length)else(a+(Go.Lib.cut (t.drop a) c.op).1.length,a+(Go.Lib.cut (t.drop a) c.op).1.length+c.op.length+(Go.Lib.cut (Go.Lib.cut (t.drop a) c.op).2.1 c.cl).1.length+c.cl.length))=o;rw[qpa y z one h1 _ _ rfl rfl o hO];have hp:a+(Go.Lib.cut (t.drop a) c.op).1.length<=t.length:=by omega
     have hk:=ho.kind;refine⟨fun k p e=>?_,fun d e=>?_,fun d b e=>?_⟩
     ·split at e
      ·injection e with e1 e2;omega
      ·cases e
     ·split at e<;>cases e
     ·split at e
      ·cases e
      ·injection e with e1 e2
       subst e1;exact zex (qt0 h D) hp (by omega) (fun h6=>(hn h6).trans T)
theorem zfq{t:zU}(h:∀p∈c.parts,PtIn t p):c.left.2<=t.length:=by
 unfold Ct.left;split
 ·exact yH _
 ·rename_i m _
  show qk2 c.parts m<=_;unfold qk2;split
  ·rename_i p y;exact(h p (yl y)).pos
  ·exact yH _
theorem zh6(t:zU):∀(n:Nat) (c:Ct) (a:Nat),CtOk t c a->(∀p∈c.parts,PtIn t p)->(Ct.go t n c a).1.2<=t.length/\∀p∈(Ct.go t n c a).2,PtIn t p:=by
 intro n
 induction n with
 |zero=>intro c a _ _;exact⟨yH _,fun p y=>by cases y⟩
 |succ n ih=>
   intro c a z h;obtain⟨D,I,J⟩:=ze3 z h;unfold Ct.go;cases O:c.step t a with
   |slip k p=>exact⟨D k p O,fun p y=>by cases y⟩
   |over d=>exact⟨zfq (I d O),I d O⟩
   |next d b=>exact ih d b (qhj z O).1 (J d b O)
theorem q99(t:zU):(qam t).1.2<=t.length/\∀p∈(qam t).2,PtIn t p:=by
 have h:=zh6 t (t.length+1) Ct.start 0 (qik t) (fun p y=>by cases y);unfold qam;split
 ·exact⟨yH _,fun p y=>by cases y⟩
 ·split
  ·exact⟨yH _,h.2⟩
  ·exact⟨h.1,fun p y=>by cases y⟩
deriving instance DecidableEq for Pt
theorem qzl(P:List Pt):q3z [⟨[],P⟩] P:=fun _ _ _=>rfl
theorem qs3{t:zU}{L:List (zU×zU)}(y:L.length<=6)(z:qhn (L.map (·.1))=true):qc5 t L =
  if(qa5 (([],t)::L)).1.code≠0 then(([],[]),(qa5 (([],t)::L)).1)else
  if(qew (qa5 (([],t)::L)).2 t.length).2.code≠0 then(([],[]),(qew (qa5 (([],t)::L)).2 t.length).2)
  else(((qew (qa5 (([],t)::L)).2 t.length).1,(qa5 (([],t)::L)).2),Ft.none):=by
 unfold qc5;rw[if_neg (fun q=>q.elim (fun q=>absurd y (by omega)) (fun q=>by rw[z]at q;cases q))]
theorem qou{n t:zU}{L:List (zU×zU)}(h:(qam t).1.1≠0):qa5 ((n,t)::L)=(⟨2,(qam t).1.1,n,(qam t).1.2⟩,[]):=by
 unfold qa5;rw[if_pos h]
theorem q13{n t:zU}(h:(qam t).1.1=0):qa5 [(n,t)]=(Ft.none,[⟨n,(qam t).2⟩]):=by
 unfold qa5;rw[if_neg (fun q=>q h)];rfl
theorem qxf{t:zU}(y:(qam t).1.1=0)(z:qeu (qam t).2 Sx.start []=some (Sx.start,[])):(qc5 t []).2=Ft.none:=by
 rw[qs3 (by simp) rfl,q13 y,if_neg (by simp[Ft.none])];have D:=q08 [⟨[],(qam t).2⟩] t.length (qrh t y).1 (qzl _);have e:qah [⟨[],(qam t).2⟩] 0=(qam t).2:=rfl;rw[e,z]at D;rw[if_neg (by rw[(D.1 rfl).1];decide)]
end Pl
section
open Go.Maps Go.MapKept Go.ChangeMaps
variable{w w':World}{b:Nat}{L:List (Value×Value)}
def qfj(w:World)(b:Nat)(L:List (Value×Value)):Prop:=∃es clock,w.heap[b]?=some (.map es clock)/\es.toList.map (fun e=>(e.key,e.val))=L
structure KeysOk(P:Program)(K:TypeId)(L:List (Value×Value)):Prop where
 key:∀p∈L,∃l,keyOf P K p.1=some l
 one:∀(i j:Nat) (p q:Value×Value),L[i]?=some p->L[j]?=some q->p.1=q.1->i=j
theorem qfj.lt(h:qfj w b L):b<w.heap.size:=by
 obtain⟨es,c,y,_⟩:=h;rcases Nat.lt_or_ge b w.heap.size with q|q
 ·exact q
 ·rw[Array.getElem?_eq_none q]at y;cases y
theorem qfj.heap(h:qfj w b L)(y:w'.heap[b]?=w.heap[b]?):qfj w' b L:=by
 obtain⟨es,c,z,D⟩:=h;exact⟨es,c,y.trans z,D⟩
theorem qfj.kept{row:Option Nat}(h:qfj w b L)(z:w.grownBy w' row)(y:some b≠row):qfj w' b L:=h.heap (z.block b h.lt y)
section
variable {P:Program}{K t e:TypeId}{w:World}{b:Nat}{L:List (Value×Value)}
theorem qu7(law:Keyed P K)(h:qfj w b L)(D:KeysOk P K L){key:Value}{kl:Lit}(y:keyOf P K key=some kl) :
  ∃es clock,w.heap[b]?=some (.map es clock)/\es.toList.map (fun e=>(e.key,e.val))=L/\(∀W:World,
    (((Instr.findKey K key es.toList).run P W=.ok none W/\∀p∈L,p.1≠key) \/
    ∃(j:Nat) (v:Value),(Instr.findKey K key es.toList).run P W=.ok (some (j,v)) W/\L[j]?=some (key,v)/\es[j]?.map (·.key)=some key)):=by
 obtain⟨es,clock,I,J⟩:=h;refine⟨es,clock,I,J,fun W=>?_⟩;have z:∀x∈es.toList,∃l,keyOf P K x.key=some l:=fun x O=>D.key (x.key,x.val) (by rw[<-J];exact xq.2 ⟨x,O,rfl⟩);rcases law.find W y es.toList z with⟨T,U⟩|⟨j,e0,T,U,V⟩
 ·refine .inl ⟨T,fun p X=>?_⟩
  rw[<-J]at X;obtain⟨x,O,rfl⟩:=xq.1 X;exact U x O
 ·refine .inr ⟨j,e0.val,T,?_,?_⟩
  ·rw[<-J,yz,U];simp[V]
  ·rw[<-Array.getElem?_toList,U];simp[V]
theorem qix(law:Keyed P K)(I:P.underlying t=some (.map K e)){z:Value}(J:(zeroValue e).run P w=.ok z w)(h:qfj w b L)(O:KeysOk P K L){key:Value}{kl:Lit}(y:keyOf P K key=some kl)(D:∀p∈L,p.1≠key)(c:Bool) :
  (Instr.lookup t (.map (some b)) key c).run P w=.ok (if c then .tuple #[z,.bool false]else z) w:=by
 obtain⟨es,clock,T,U,V⟩:=qu7 law h O y;rcases V w with⟨X,_⟩|⟨j,v,_,Y,_⟩
 ·simp[Instr.lookup,run_underlying I,MapKept.run_getObj_map T,law.check w _ y,X,J,Result.andThen]
 ·exact absurd rfl (D _ (yl Y))
theorem qh3(law:Keyed P K)(D:P.underlying t=some (.map K e))(h:qfj w b L)(I:KeysOk P K L){key:Value}{kl:Lit}(y:keyOf P K key=some kl){v:Value}(J:(key,v)∈L)(c:Bool) :
  (Instr.lookup t (.map (some b)) key c).run P w=.ok (if c then .tuple #[v,.bool true]else v) w:=by
 obtain⟨es,clock,O,T,U⟩:=qu7 law h I y;rcases U w with⟨_,V⟩|⟨j,u,V,X,_⟩
 ·exact absurd rfl (V _ J)
 ·obtain⟨i,Y,z⟩:=List.getElem_of_mem J
  have e1:i=j:=I.one i j (key,v) (key,u) (by rw[yc Y,z]) X rfl;subst e1;rw[yc Y,z]at X;have e2:v=u:=by simpa using X
  subst e2;simp[Instr.lookup,run_underlying D,MapKept.run_getObj_map O,law.check w _ y,V,Result.andThen]
theorem qiw(law:Keyed P K)(D:P.underlying t=some (.map K e))(h:qfj w b L)(I:KeysOk P K L){key val:Value}{kl:Lit}(y:keyOf P K key=some kl)(z:∀p∈L,p.1≠key) :
  ∃w',(Instr.mapUpdate t (.map (some b)) key val).run P w=.ok () w'/\qfj w' b (L++[(key,val)])/\w.grownBy w' (some b)/\w'.heap.size=w.heap.size:=by
 obtain⟨es,clock,J,O,T⟩:=qu7 law h I y;rcases T w with⟨U,_⟩|⟨j,u,_,V,_⟩
 ·refine⟨setBlock w b (.map (es.push ⟨key,val,clock⟩) (clock+1)),?_,⟨_,_,heap_setBlock_same J _,?_⟩,⟨rfl,rfl,rfl,by simp[setBlock],fun i _ X=>heap_setBlock_other J _ (fun e=>X (by rw[e]))⟩,by simp[setBlock]⟩
  ·simp[Instr.mapUpdate,run_underlying D,MapKept.run_getObj_map J,law.check w false y,U,MapKept.run_setObj_map _ J,Result.andThen,setBlock]
  ·rw[Array.toList_push,yG,O];rfl
 ·exact absurd rfl (z _ (yl V))
theorem qk9(law:Keyed P K)(z:P.underlying t=some (.map K e))(h:qfj w b L)(D:KeysOk P K L){key val v:Value}{kl:Lit}(y:keyOf P K key=some kl)(i:Nat)(I:L[i]?=some (key,v)) :
  ∃w',(Instr.mapUpdate t (.map (some b)) key val).run P w=.ok () w'/\qfj w' b (L.set i (key,val))/\w.grownBy w' (some b)/\w'.heap.size=w.heap.size:=by
 obtain⟨es,clock,J,O,T⟩:=qu7 law h D y;rcases T w with⟨_,U⟩|⟨j,u,U,V,X⟩
 ·exact absurd rfl (U _ (yl I))
 ·have e1:i=j:=D.one i j _ _ I V rfl
  subst e1;obtain⟨e0,Y,Z⟩:=yy.1 X;refine⟨setBlock w b (.map (es.modify i (fun e'=>{ e' with key:=key,val:=val })) clock),?_,⟨_,_,heap_setBlock_same J _,?_⟩,⟨rfl,rfl,rfl,by simp[setBlock],fun i _ hi=>heap_setBlock_other J _ (fun e=>hi (by rw[e]))⟩,by simp[setBlock]⟩
  ·simp[Instr.mapUpdate,run_underlying z,MapKept.run_getObj_map J,law.check w false y,U,Y,Z,law.stays w y,MapKept.run_setObj_map _ J,Result.andThen,setBlock]
  ·rw[Array.toList_modify,modify_eq_set _ _ _ _ (by rw[Array.getElem?_toList];exact Y),List.map_set,O]
end
end
variable{P:Program}{fn:Func}{p:Tmp}{w:World}{fz:Nat×Nat}
def aggD:TypeDesc->Bool
 |.struct _=>true
 |.array _ _=>true
 |_=>false
theorem qbn{ty:TypeId}(h:fn.results=#[.cell p ty])(tmps:Array Value)(w:World)(g:Nat)(cs:Array Value)(d:TypeDesc)(y:tmps.getD p undef=zP g)
  (z:∀j v,cs.toList[j]?=some v->w.cell? (zO g j)=some v)
  (D:P.underlying ty=some d) (hd:aggD d=true) (I:(P.info? ty).map (·.size)=some cs.size) :
  (results fn tmps).run P w=.ok (.agg cs) w:=by
 have J:=qbb (P:=P) w g ty cs d z D (by cases d<;>first|rfl|cases hd) I
 rw[yY]at y;simp only[results,h];simp[y,asAddr,J]
theorem qaa{g:Nat}{cs:Array Value}{t:TypeId}(h:w.heap[g]?=some (.cells cs t fz)):∀(j:Nat) (v:Value),cs.toList[j]?=some v->w.cell? (zO g j)=some v:=by
 intro j v y;rw[cell_of_row w g j cs t fz h];simpa using y
theorem qb8{R:Ending->World->Prop}{a:Act}{ty t:TypeId}(h:fn.results=#[.cell p ty])(g:Nat)(cs:Array Value)(d:TypeDesc)
  (z:P.underlying ty=some d) (hd:aggD d=true)
  (D:a.tmps.getD p undef=zP g) (I:w.heap[g]?=some (.cells cs t fz)) (J:(P.info? ty).map (·.size)=some cs.size) (y:a.defers=[]) (O:R (.returned (.agg cs)) w):bodyPost P fn R .ret a w:=
 bodyPost_ret (qbn h a.tmps w g cs d D (qaa I) z hd J) y O
theorem qko{f:FuncId}{args:Array Value}{n:Nat}{v:Value}
  (h:Calls P f args (w.drewN n) fun e w'=>e=.returned v/\w.drewN n=w'):Calls P f args (w.drewN n) fun e w''=>e=.returned v/\∃m,w''=w.drewN m:=
 h.mono fun _ _ ⟨y,z⟩=>⟨y,n,z.symm⟩
theorem qat{B:Nat}{a:World}(h:Below B a w)(n:Nat):Below B a (w.drewN n):=⟨h.os,h.tape,h.output,h.size,h.block⟩
end Go.Proofs.YtfkhljmiehdgmaaGreatDoor
