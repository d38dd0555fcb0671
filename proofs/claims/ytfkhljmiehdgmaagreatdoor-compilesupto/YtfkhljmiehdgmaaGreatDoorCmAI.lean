/-
  Steps of the proof.
-/
import Derived.Test.YtfkhljmiehdgmaaGreatDoorCmAH
set_option maxRecDepth 100000
set_option maxHeartbeats 40000000
namespace Go.Proofs.YtfkhljmiehdgmaaGreatDoor.Pl
theorem q31{o:Nat}{l:List Pt}(h:Wf o l):∀(x:Sx) (B:List Sx) (y:Sx×List Sx),qek l x B=some y→y.2=B:=by
 induction h with
 | nil o=>intro x B y h;injection h with h;subst h;rfl
 | leaf o p l hk _ ih=>
   intro x B y h;obtain⟨z,h1,h2⟩:=Option.bind_eq_some_iff.1 h;rw[ih _ _ _ h2];unfold qfd at h1;split at h1
   ·split at h1
    ·cases h1
    ·injection h1 with h1;subst h1;rfl
   ·split at h1
    ·split at h1
     ·injection h1 with h1;subst h1;rfl
     ·cases h1
    ·rw[if_neg (by omega),if_neg (by omega)]at h1
     injection h1 with h1;subst h1;rfl
 | sec o p q b l hp hq h1 h2 hb _ ihb ihl=>
   intro x B y h;have e:p::b++q::l=p::(b++(q::l)):=by simp
   rw[e]at h;obtain⟨z,g1,g2⟩:=Option.bind_eq_some_iff.1 h;unfold qfd at g1;rw[if_neg (by omega),if_neg (by omega),if_pos hp]at g1;injection g1 with g1;subst g1;rw[qj1]at g2;obtain⟨u,g3,g4⟩:=Option.bind_eq_some_iff.1 g2;have hu:=ihb _ _ _ g3;obtain⟨u1,u2⟩:=u;simp only at hu g4;subst hu;obtain⟨v,g5,g6⟩:=Option.bind_eq_some_iff.1 g4;unfold qfd at g5;rw[if_neg (by omega),if_neg (by omega),if_neg (by omega),if_pos hq,List.getLast?_concat,List.dropLast_concat]at g5;simp only at g5;split at g5
   ·injection g5 with g5;subst g5
    exact ihl _ _ _ g6
   ·cases g5
theorem q6i{o:Nat}{p q:Pt}{b l:List Pt}(hp:p.kind=3∨p.kind=4)(hq:q.kind=5)(hb:Wf o b){x:Sx}{B:List Sx}{y:Sx×List Sx}(h:qek (p::b++q::l) x B=some y):qek l x B=some y:=by
 have e:p::b++q::l=p::(b++(q::l)):=by simp
 rw[e]at h;obtain⟨z,g1,g2⟩:=Option.bind_eq_some_iff.1 h;unfold qfd at g1;rw[if_neg (by omega),if_neg (by omega),if_pos hp]at g1;injection g1 with g1;subst g1;rw[qj1]at g2;obtain⟨u,g3,g4⟩:=Option.bind_eq_some_iff.1 g2;have hu:=q31 hb _ _ _ g3;obtain⟨u1,u2⟩:=u;simp only at hu g4;subst hu;obtain⟨v,g5,g6⟩:=Option.bind_eq_some_iff.1 g4;unfold qfd at g5;rw[if_neg (by omega),if_neg (by omega),if_neg (by omega),if_pos hq,List.getLast?_concat,List.dropLast_concat]at g5;simp only at g5;split at g5
 ·rename_i hx
  injection g5 with g5;subst g5;simp only at g6;rw[hx]at g6;exact g6
 ·cases g5
theorem qzf{α:Type}{P l:List α}{o:Nat}{p:α}(h:P.drop o=p::l):P[o]?=some p∧P.drop (o+1)=l:=by
 have h1:P[o]?=some p:=by
  have:=congrArg (·[0]?) h;simpa using this
 refine⟨h1,?_⟩;have:=qu2 h1;rw[h]at this;exact((List.cons.injEq _ _ _ _).mp this).2.symm
theorem qzs(beh:Sr→List UInt8→Sx→Sr×Sx){o:Nat}{l:List Pt}(h:Wf o l):∀(P:List Pt),P.drop o=l→(∀p∈P,p.kind=6→∀s x,beh s p.text x=(s,x)) →
  ∀(n:Nat) (s:Sr) (x:Sx) (B:List Sx) (y:Sx×List Sx),l.length<n→SxOk x→qek l x B=some y→qde beh P n o s x=(s,y.1):=by
 induction h with
 | nil o=>
   intro P hP ha n s x B y hn hx h;injection h with h;subst h;obtain⟨n,rfl⟩:∃k,n=k+1:=⟨n - 1,by simp at hn;omega⟩;unfold qde;have:P[o]?=Option.none:=by simpa using hP
   rw[this,qjs hx];rfl
 | leaf o p l hk _ ih=>
   intro P hP ha n s x B y hn hx h;obtain⟨z,h1,h2⟩:=Option.bind_eq_some_iff.1 h;obtain⟨hp,hd⟩:=qzf hP;have hz:=qp7 hx h1;obtain⟨n,rfl⟩:∃k,n=k+1:=⟨n - 1,by simp at hn;omega⟩;have Ha:l.length<n:=by simp at hn;omega
   unfold qde;rw[hp,qjs hx];unfold qfd at h1;simp only[Bool.false_eq_true,if_false];by_cases k1:p.kind=1
   ·rw[if_pos k1]at h1 ⊢
    split at h1
    ·cases h1
    ·injection h1 with h1;subst h1
     exact ih P hd ha n s _ _ y Ha hz h2
   rw[if_neg k1]at h1 ⊢;by_cases k2:p.kind=2
   ·rw[if_pos k2]at h1 ⊢
    split at h1
    ·injection h1 with h1;subst h1
     exact ih P hd ha n s _ _ y Ha hz h2
    ·cases h1
   rw[if_neg k2,if_neg (by omega),if_neg (by omega)]at h1;rw[if_neg k2,if_neg (by omega),if_pos (by omega),ha p (List.mem_of_getElem? hp) (by omega)];injection h1 with h1;subst h1;exact ih P hd ha n s _ _ y Ha hz h2
 | sec o p q b l hp hq h1 h2 hb _ ihb ihl=>
   intro P hP ha n s x B y hn hx h;have e:p::b++q::l=p::(b++(q::l)):=by simp
   have Hb:=hP;rw[e]at Hb;obtain⟨hc,hd⟩:=qzf Hb;obtain⟨n,rfl⟩:∃k,n=k+1:=⟨n - 1,by simp at hn;omega⟩;have Hc:P.drop (o+b.length+2)=l:=by
    have:P.drop (o+1+b.length+1)=l:=by
     rw[Nat.add_assoc (o+1),←List.drop_drop,hd,←List.drop_drop,List.drop_left];rfl
    rw[show o+b.length+2=o+1+b.length+1 by omega];exact this
   unfold qde;rw[hc,qjs hx];simp only[Bool.false_eq_true,if_false];rw[if_neg (by omega),if_neg (by omega),if_pos hp,h1,show o+1+b.length+1=o+b.length+2 by omega];exact ihl P Hc ha n s x B y (by simp at hn;omega) hx (q6i hp hq hb h)
structure SxFit(x:Sx):Prop where
 ok:SxOk x
 far:0≤x.ma.far∧x.ma.far≤3
theorem qiw:SxFit Sx.start:=⟨qjm,by decide⟩
theorem qso(kind:Int)(m:Nat)(far:Int)(b:UInt8)(h:0≤far∧far≤3):0≤qdr kind m far b∧qdr kind m far b≤3:=by
 unfold qdr
 repeat' split
 all_goals omega
theorem qnm:(0:Int)≤Mk.none.far∧Mk.none.far≤3:=by decide
theorem qsq(m:Nat)(e:Bool)(b:UInt8):0≤(qa7 m e b).far∧(qa7 m e b).far≤3:=by
 unfold qa7;split
 ·exact qnm
 ·split
  ·exact⟨Int.le_refl _,by simp⟩
  ·exact qnm
theorem qvh(s:St)(k:Mk)(b:UInt8)(h:0≤k.far∧k.far≤3):0≤(qev s k b).far∧(qev s k b).far≤3:=by
 unfold qev qkk qle;split
 ·exact qnm
 ·split
  ·exact qsq _ _ _
  ·split
   ·unfold qcd
    simp only;split
    ·exact qso _ _ _ _ h
    ·omega
   ·exact qnm
theorem qq9{x:Sx}(b:UInt8)(h:SxFit x):SxFit (x.behind b):=⟨qkd b h.ok,qvh _ _ b h.far⟩
theorem qhd(l:List UInt8):∀x:Sx,SxFit x→SxFit (qaw x l):=by
 induction l with
 | nil=>intro x h;exact h
 | cons b l ih=>intro x h;exact ih _ (qq9 b h)
theorem qij{x:Sx}(h:SxFit x):SxFit x.behindHole:=by
 refine⟨qip x h.ok,?_⟩;unfold Sx.behindHole;split
 ·exact⟨by simp,by simp⟩
 ·exact h.far
def qp0(x:Sx):Prop:=x=Sx.none∨SxFit x
theorem qf6{x:Sx}(h:SxFit x):x.isNone=false:=qjs h.ok
theorem qkr{x:Sx}(h:qp0 x)(hn:¬x.isNone=true):SxFit x:=by
 rcases h with rfl | h
 ·exact absurd rfl hn
 ·exact h
section
variable {α:Type}
theorem qe4{l:List (En×α)}{e:En}{v:α}(h:qa1 l e=some v):(e,v)∈l:=by
 induction l with
 | nil=>cases h
 | cons p l ih=>
   obtain⟨k,u⟩:=p;unfold qa1 at h;split at h
   ·rename_i hk
    injection h with h;subst h hk;simp
   ·exact List.mem_cons_of_mem _ (ih h)
theorem qik{l:List (En×α)}{e:En}(h:qa1 l e=Option.none):∀p∈l,p.1≠e:=by
 induction l with
 | nil=>intro p hp;cases hp
 | cons p l ih=>
   obtain⟨k,u⟩:=p;unfold qa1 at h;split at h
   ·cases h
   ·rename_i hk
    intro q hq;rcases List.mem_cons.1 hq with rfl | hq
    ·exact hk
    ·exact ih h q hq
theorem qeg{l:List (En×α)}{e:En}(h:qa1 l e=Option.none)(v:α):qa5 l e v=l++[(e,v)]:=by
 induction l with
 | nil=>rfl
 | cons p l ih=>
   obtain⟨k,u⟩:=p;unfold qa1 at h;split at h
   ·cases h
   ·rename_i hk
    unfold qa5;rw[if_neg hk,ih h];rfl
theorem qhu{l:List (En×α)}{e:En}{u:α}(h:qa1 l e=some u)(v:α):∃i,l[i]?=some (e,u)∧qa5 l e v=l.set i (e,v):=by
 induction l with
 | nil=>cases h
 | cons p l ih=>
   obtain⟨k,w⟩:=p;unfold qa1 at h;split at h
   ·rename_i hk
    injection h with h;subst h hk;refine⟨0,rfl,?_⟩;unfold qa5;rw[if_pos rfl];rfl
   ·rename_i hk
    obtain⟨i,h1,h2⟩:=ih h;refine⟨i+1,by simpa using h1,?_⟩;unfold qa5;rw[if_neg hk,h2];rfl
theorem qeh(l:List (En×α))(e:En)(v:α)(e':En):qa1 (qa5 l e v) e'=if e=e' then some v else qa1 l e':=by
 induction l with
 | nil=>rfl
 | cons p l ih=>
   obtain⟨k,u⟩:=p;unfold qa5;by_cases hk:k=e
   ·rw[if_pos hk]
    subst hk;unfold qa1;split
    ·rfl
    ·rfl
   ·rw[if_neg hk]
    unfold qa1;rw[ih];by_cases h1:k=e'
    ·rw[if_pos h1,if_pos h1,if_neg (fun h=>hk (h1.trans h.symm))]
    ·rw[if_neg h1,if_neg h1]
theorem qqk(l:List (En×α))(e:En)(v:α):(qa5 l e v).length=if qa1 l e=Option.none then l.length+1 else l.length:=by
 split
 ·rename_i h;rw[qeg h];simp
 ·rename_i h
  cases hg:qa1 l e with
  | none=>exact absurd hg h
  | some u=>obtain⟨i,_,h2⟩:=qhu hg v;rw[h2];simp
def qji(l:List (En×α)):Prop:=∀(i j:Nat) (p q:En×α),l[i]?=some p→l[j]?=some q→p.1=q.1→i=j
theorem qkn{l:List (En×α)}(h:qji l)(e:En)(v:α):qji (qa5 l e v):=by
 cases hg:qa1 l e with
 | none=>
   rw[qeg hg];have hn:=qik hg;intro i j p q hi hj ha;rw[List.getElem?_append]at hi hj;split at hi<;>split at hj
   ·exact h i j p q hi hj ha
   ·exfalso
    rename_i h1 h2;have:j - l.length=0:=by
     have:=(List.getElem?_eq_some_iff.1 hj).1;simp at this;omega
    rw[this]at hj;simp at hj;subst hj;exact hn p (List.mem_of_getElem? hi) ha
   ·exfalso
    have:i - l.length=0:=by
     have:=(List.getElem?_eq_some_iff.1 hi).1;simp at this;omega
    rw[this]at hi;simp at hi;subst hi;exact hn q (List.mem_of_getElem? hj) ha.symm
   ·have h1:=(List.getElem?_eq_some_iff.1 hi).1
    have h2:=(List.getElem?_eq_some_iff.1 hj).1;simp at h1 h2;omega
 | some u=>
   obtain⟨k,h1,h2⟩:=qhu hg v;rw[h2];intro i j p q hi hj ha;have fix:∀(i:Nat) (p:En×α),(l.set k (e,v))[i]?=some p→∃p',l[i]?=some p'∧p'.1=p.1:=by
    intro i p hi;rw[List.getElem?_set]at hi;split at hi
    ·rename_i Ha
     subst Ha;split at hi
     ·injection hi with hi;subst hi;exact⟨_,h1,rfl⟩
     ·cases hi
    ·exact⟨p,hi,rfl⟩
   obtain⟨p',e1,e2⟩:=fix i p hi;obtain⟨q',e3,e4⟩:=fix j q hj;exact h i j p' q' e1 e3 (by rw[e2,e4,ha])
theorem qhk{l:List (En×α)}{e:En}{v:α}{p:En×α}(h:p∈qa5 l e v):p=(e,v)∨p∈l:=by
 cases hg:qa1 l e with
 | none=>rw[qeg hg]at h;simp at h;exact h.symm
 | some u=>
   obtain⟨k,h1,h2⟩:=qhu hg v;rw[h2]at h;rcases List.mem_or_eq_of_mem_set h with h | h
   ·exact .inr h
   ·exact .inl h
end
structure EndsOk(n:Nat)(l:List (En×Sx)):Prop where
 key:∀p∈l,SxFit p.1.2∧1≤p.1.1∧p.1.1<n
 val:∀p∈l,qp0 p.2
 one:qji l
 few:l.length≤256
theorem qq0(n:Nat):EndsOk n []:=⟨fun _ h=>(by cases h),fun _ h=>(by cases h),fun i j p q h=>(by simp at h),by decide⟩
theorem qh1{n:Nat}{l:List (En×Sx)}(h:EndsOk n l){e:En}{v:Sx}(he:SxFit e.2∧1≤e.1∧e.1<n)(hv:qp0 v)(hf:(qa5 l e v).length≤256):EndsOk n (qa5 l e v):=
 ⟨fun p hp=>(qhk hp).elim (fun q=>q▸he) (h.key p),fun p hp=>(qhk hp).elim (fun q=>q▸hv) (h.val p),qkn h.one e v,hf⟩
theorem qqm(n:List UInt8):∀(l:List Src) (i:Nat),qfs n i l=0∨(i≤qfs n i l∧qfs n i l<i+l.length)
 | [],i=>.inl rfl
 | s::l,i=>by
   unfold qfs;split
   ·exact .inr ⟨Nat.le_refl _,by simp⟩
   ·rcases qqm n l (i+1)with h | h
    ·exact .inl h
    ·exact .inr ⟨by omega,by simp;omega⟩
theorem qe2(S:List Src)(n:List UInt8)(h:qai S n≠0):1≤qai S n∧qai S n<S.length:=by
 unfold qai at h ⊢;rcases qqm n (S.drop 1) 1 with q | q
 ·exact absurd q h
 ·rw[List.length_drop]at q;omega
structure Grew(n:Nat)(s s':Sr):Prop where
 ok:EndsOk n s'.ends
 more:s.ends.length≤s'.ends.length
 has:∀e,qa1 s.ends e≠Option.none→qa1 s'.ends e≠Option.none
 nums:s'.nums=s.nums
 vis:s'.vis=s.vis
 fault:s'.fault=s.fault∨s'.fault=qqy
theorem Grew.refl{n:Nat}{s:Sr}(h:EndsOk n s.ends):Grew n s s:=⟨h,Nat.le_refl _,fun _ h=>h,rfl,rfl,.inl rfl⟩
theorem Grew.trans{n:Nat}{a b c:Sr}(h:Grew n a b)(k:Grew n b c):Grew n a c:=
 ⟨k.ok,Nat.le_trans h.more k.more,fun e q=>k.has e (h.has e q),k.nums.trans h.nums,k.vis.trans h.vis,by
  rcases k.fault with q | q
  ·rw[q];exact h.fault
  ·exact .inr q⟩
def q9p(n:Nat)(beh:Sr→List UInt8→Sx→Sr×Sx)(m:Nat):Prop:=∀s t x,EndsOk n s.ends→m≤s.ends.length→SxFit x→Grew n s (beh s t x).1∧qp0 (beh s t x).2
theorem qk2{n m:Nat}{beh:Sr→List UInt8→Sx→Sr×Sx}(hb:q9p n beh m)(P:List Pt):∀(k a:Nat) (s:Sr) (x:Sx),EndsOk n s.ends→m≤s.ends.length→qp0 x→Grew n s (qde beh P k a s x).1∧qp0 (qde beh P k a s x).2:=by
 intro k
 induction k with
 | zero=>intro a s x h _ hx;exact⟨Grew.refl h,hx⟩
 | succ k ih=>
   intro a s x h hm hx;unfold qde;by_cases hn:x.isNone=true
   ·rw[if_pos hn];exact⟨Grew.refl h,hx⟩
   rw[if_neg hn];have hf:=qkr hx hn;cases hp:P[a]? with
   | none=>exact⟨Grew.refl h,hx⟩
   | some p=>
     simp only;split
     ·exact ih _ s _ h hm (.inr (qhd _ _ hf))
     ·split
      ·exact ih _ s _ h hm (.inr (qij hf))
      ·split
       ·exact ih _ s _ h hm hx
       ·split
        ·obtain⟨h1,h2⟩:=hb s p.text x h hm hf
         obtain⟨h3,h4⟩:=ih (a+1) _ _ h1.ok (Nat.le_trans hm h1.more) h2;exact⟨h1.trans h3,h4⟩
        ·exact ih _ s _ h hm hx
theorem qnn:qp0 Sx.none:=.inl rfl
theorem qga(S:List Src):∀(k m:Nat),257≤m+k→q9p S.length (behV S k) m:=by
 intro k
 induction k with
 | zero=>
   intro m hm s t x h hl hx;have:=h.few;omega
 | succ k ih=>
   intro m hm s t x h hl hx;unfold behV;by_cases h0:qai S t=0
   ·rw[if_pos h0];exact⟨Grew.refl h,.inr hx⟩
   rw[if_neg h0];have Hc:=qe2 S t h0;cases hg:qa1 s.ends (qai S t,x) with
   | some e=>exact⟨Grew.refl h,h.val _ (qe4 hg)⟩
   | none=>
     simp only;by_cases ha:s.ends.length=256
     ·rw[if_pos ha]
      exact⟨⟨h,Nat.le_refl _,fun _ q=>q,rfl,rfl,.inr rfl⟩,qnn⟩
     rw[if_neg ha];have hb:(qa5 s.ends (qai S t,x) Sx.none).length=s.ends.length+1:=by rw[qeg hg];simp
     have Hb:EndsOk S.length (qa5 s.ends (qai S t,x) Sx.none):=qh1 h ⟨hx,Hc⟩ qnn (by have:=h.few;omega);obtain⟨g1,g2⟩:=qk2 (ih (s.ends.length+1) (by omega)) (qab S (qai S t)) ((qab S (qai S t)).length+1) 0 { s with ends:=qa5 s.ends (qai S t,x) Sx.none } x Hb (by show s.ends.length+1≤(qa5 _ _ _).length;omega) (.inr hx);generalize qde (behV S k) (qab S (qai S t)) ((qab S (qai S t)).length+1) 0 { s with ends:=qa5 s.ends (qai S t,x) Sx.none } x=r at g1 g2 ⊢;have He:s.ends.length+1≤r.1.ends.length:=by have:=g1.more;rw[show ({ s with ends:=qa5 s.ends (qai S t,x) Sx.none }:Sr).ends.length=s.ends.length+1 from hb]at this;exact this
     have hc:qa1 r.1.ends (qai S t,x)≠Option.none:=g1.has _ (by show qa1 (qa5 _ _ _) _≠_;rw[qeh,if_pos rfl];simp);have Ha:(qa5 r.1.ends (qai S t,x) r.2).length=r.1.ends.length:=by rw[qqk,if_neg hc]
     refine⟨⟨qh1 g1.ok ⟨hx,Hc⟩ g2 (by rw[Ha];exact g1.ok.few),?_,?_,g1.nums,g1.vis,g1.fault⟩,g2⟩
     ·show s.ends.length≤(qa5 _ _ _).length;omega
     ·intro e he
      show qa1 (qa5 _ _ _) e≠_;rw[qeh];split
      ·simp
      ·refine g1.has e ?_
       show qa1 (qa5 _ _ _) e≠_;rw[qeh];split
       ·simp
       ·exact he
end Go.Proofs.YtfkhljmiehdgmaaGreatDoor.Pl
namespace Go.Proofs.YtfkhljmiehdgmaaGreatDoor
open Go.RowKit
theorem qq2(x:Pl.Sx)(w:World)(hs:x.st.elem.length≤1000) :
  Calls Tryz.prog 129 #[qap x] w fun e w'=>e=.returned (.string ⟨x.st.ending.toArray⟩)∧Below w.heap.size w w':=by
 have hz:(ByteArray.mk x.st.elem.toArray).size=x.st.elem.length:=by simp[ByteArray.size]
 unfold qap qaf bs;go_enter Tryz.func129,Tryz.ntmps129
 go_wp2
 go_ret
 exact⟨qdb (by unfold Pl.St.ending;apply ByteArray.ext;simp),ba _⟩
structure SxAt(w:World)(g:Nat)(s:Pl.Sx):Prop where
 mode:w.cell? ⟨g,0,none⟩=some (.int .u8 (s.st.mode:Int))
 name:w.cell? ⟨g,1,none⟩=some (.string ⟨s.st.name.toArray⟩)
 elem:w.cell? ⟨g,2,none⟩=some (.string ⟨s.st.elem.toArray⟩)
 kind:w.cell? ⟨g,3,none⟩=some (.int .i64 s.st.kind)
 read:w.cell? ⟨g,4,none⟩=some (.int .i64 (s.st.read:Int))
 ref:w.cell? ⟨g,5,none⟩=some (.bool s.ma.ref)
 esc:w.cell? ⟨g,6,none⟩=some (.bool s.st.esc)
 hex:w.cell? ⟨g,7,none⟩=some (.int .i64 s.ma.hex)
 pct:w.cell? ⟨g,8,none⟩=some (.int .i64 s.ma.pct)
 far:w.cell? ⟨g,9,none⟩=some (.int .i64 s.ma.far)
theorem q72{w:World}{g:Nat}{s:Pl.Sx}{t:TypeId}{fz:Nat×Nat}(h:w.heap[g]?=some (.cells (qaf s) t fz)):SxAt w g s:=
 ⟨qaa h 0 _ rfl,qaa h 1 _ rfl,qaa h 2 _ rfl,qaa h 3 _ rfl,qaa h 4 _ rfl,qaa h 5 _ rfl,qaa h 6 _ rfl,qaa h 7 _ rfl,qaa h 8 _ rfl,qaa h 9 _ rfl⟩
theorem qjn(w:World)(s:Pl.Sx)(t:TypeId):SxAt (w.alloc (.cells (qaf s) t)) w.heap.size s:=q72 (heap_alloc_new w _)
theorem SxAt.drew{w:World}{g:Nat}{s:Pl.Sx}(h:SxAt w g s):SxAt w.drew g s:=⟨h.mode,h.name,h.elem,h.kind,h.read,h.ref,h.esc,h.hex,h.pct,h.far⟩
theorem SxAt.kept{w w':World}{B g:Nat}{s:Pl.Sx}(h:SxAt w g s)(hb:Below B w w')(hB:g<B):SxAt w' g s:=
 ⟨(hb.cell (p:=⟨g,0,none⟩) hB).trans h.mode,(hb.cell (p:=⟨g,1,none⟩) hB).trans h.name,(hb.cell (p:=⟨g,2,none⟩) hB).trans h.elem,(hb.cell (p:=⟨g,3,none⟩) hB).trans h.kind,(hb.cell (p:=⟨g,4,none⟩) hB).trans h.read,(hb.cell (p:=⟨g,5,none⟩) hB).trans h.ref,(hb.cell (p:=⟨g,6,none⟩) hB).trans h.esc,(hb.cell (p:=⟨g,7,none⟩) hB).trans h.hex,(hb.cell (p:=⟨g,8,none⟩) hB).trans h.pct,(hb.cell (p:=⟨g,9,none⟩) hB).trans h.far⟩
theorem qq1(s:Pl.St):s.ending.length=s.elem.length+2:=by simp[Pl.St.ending]
theorem q3z(E:List UInt8)(k:Nat)(h:k<(ByteArray.mk E.toArray).size):E[k]?=some ((ByteArray.mk E.toArray)[k]'h):=by
 rw[List.getElem?_eq_getElem (by simpa [ByteArray.size] using h)];rfl
theorem q3x{E:List UInt8}{k:Nat}{c:UInt8}{h:k<(ByteArray.mk E.toArray).size}(e:((c.toNat:Int)==((ByteArray.mk E.toArray)[k]'h).toNat)=true):E[k]?=some c:=by
 rw[Pl.beq8,beq_iff_eq]at e;rw[q3z E k h,e]
theorem q3y{E:List UInt8}{k:Nat}{c:UInt8}{h:k<(ByteArray.mk E.toArray).size}(e:((c.toNat:Int)==((ByteArray.mk E.toArray)[k]'h).toNat)=false):¬E[k]?=some c:=by
 rw[Pl.beq8,beq_eq_false_iff_ne]at e;rw[q3z E k h];intro q;exact e (Option.some.inj q).symm
theorem qy8{E:List UInt8}{k:Nat}{c:UInt8}(h:¬k<E.length):¬E[k]?=some c:=by
 rw[List.getElem?_eq_none (by omega)];simp
theorem quo{E:List UInt8}{c:UInt8}{h:0<(ByteArray.mk E.toArray).size}(h0:E[0]?=some 60)(e:((c.toNat:Int)==((ByteArray.mk E.toArray)[0]'h).toNat)=true):c=60:=by
 have:=q3x e;rw[h0]at this;exact(Option.some.inj this).symm
theorem qy9{E:List UInt8}{c:UInt8}{h:0<(ByteArray.mk E.toArray).size}(h0:E[0]?=some 60)(e:((c.toNat:Int)==((ByteArray.mk E.toArray)[0]'h).toNat)=false):¬c=60:=by
 rintro rfl;exact q3y e h0
theorem qwn(x:Pl.Sx)(b:UInt8)(w:World)(hs:x.st.elem.length≤1000) :
  Calls Tryz.prog 93 #[qap x,.int .u8 b.toNat] w fun e w'=>e=.returned (.int .i64 (x.st.readEnd b:Nat))∧Below w.heap.size w w':=by
 have hz:(ByteArray.mk x.st.ending.toArray).size=x.st.ending.length:=by simp[ByteArray.size]
 have hl:=qq1 x.st;have he:=fun w=>qq2 x w hs;have HD:Hid (x.st.readEnd b=if x.st.ending[x.st.read]?=some (Pl.qcr b) then x.st.read+1 else if b=60 then 1 else 0):=rfl;have HZ:Hid (x.st.ending[0]?=some 60):=rfl;have Hb:x.st.ending.length≤1002:=by omega
 have h2:0<x.st.ending.length:=by omega
 generalize x.st.ending=E at hz hl he HD HZ Hb h2;clear hl;have He:(0:Int)<(E.length:Int):=by omega
 have hc:=qjn w x 162;unfold qaf bs at hc;unfold qap qaf bs;by_cases hb:x.st.read<E.length
 ·have Hc:(x.st.read:Int)<(E.length:Int):=by omega
  have hf:x.st.read+1≤2000:=by omega
  clear Hb;go_enter Tryz.func93,Tryz.ntmps93
  go_wp2_with fail
  refine(he _).mono ?_;rintro e w1 ⟨rfl,Ha⟩;have ha:=hc.kept Ha (by simp);have q4:=ha.read;have hw:Below w.heap.size w w1:=(ba _).trans (Ha.mono (by simp));go_wp2_with fail
  go_quiet ((go_at_call 131;refine qqj (qlr b _)))
  go_wp2
  ·go_ret
   exact⟨qan (by rw[HD.out,if_pos (q3x ‹_›)];rfl),qaz hw _⟩
  ·have n1:=‹(((Pl.qcr b).toNat:Int)==(((ByteArray.mk E.toArray)[x.st.read]'(by rw[hz];exact hb)).toNat:Int))=false›
   have n2:=‹((b.toNat:Int)==(((ByteArray.mk E.toArray)[0]'(by rw[hz];exact h2)).toNat:Int))=true›;go_ret
   exact⟨qan (by rw[HD.out,if_neg (q3y n1),if_pos (quo HZ.out n2)];rfl),qaz hw _⟩
  ·have n1:=‹(((Pl.qcr b).toNat:Int)==(((ByteArray.mk E.toArray)[x.st.read]'(by rw[hz];exact hb)).toNat:Int))=false›
   have n2:=‹((b.toNat:Int)==(((ByteArray.mk E.toArray)[0]'(by rw[hz];exact h2)).toNat:Int))=false›;go_ret
   exact⟨qan (by rw[HD.out,if_neg (q3y n1),if_neg (qy9 HZ.out n2)];rfl),qaz hw _⟩
 ·have Hc:decide ((x.st.read:Int)<(E.length:Int))=false:=by rw[decide_eq_false_iff_not];omega
  clear Hb;go_enter Tryz.func93,Tryz.ntmps93
  go_wp2_with fail
  refine(he _).mono ?_;rintro e w1 ⟨rfl,Ha⟩;have ha:=hc.kept Ha (by simp);have q4:=ha.read;have hw:Below w.heap.size w w1:=(ba _).trans (Ha.mono (by simp));go_wp2_with fail
  go_quiet (fail)
  go_wp2
  ·have n2:=‹((b.toNat:Int)==(((ByteArray.mk E.toArray)[0]'(by rw[hz];exact h2)).toNat:Int))=true›
   go_ret
   exact⟨qan (by rw[HD.out,if_neg (qy8 hb),if_pos (quo HZ.out n2)];rfl),qaz hw _⟩
  ·have n2:=‹((b.toNat:Int)==(((ByteArray.mk E.toArray)[0]'(by rw[hz];exact h2)).toNat:Int))=false›
   go_ret
   exact⟨qan (by rw[HD.out,if_neg (qy8 hb),if_neg (qy9 HZ.out n2)];rfl),qaz hw _⟩
end Go.Proofs.YtfkhljmiehdgmaaGreatDoor
namespace Go.Proofs.YtfkhljmiehdgmaaGreatDoor
open Go.RowKit Go.Maps
theorem qjb{a b:Pl.En}(h:qf7 a=qf7 b):a=b:=by
 obtain⟨i,⟨⟨m,n,e,k,r,es⟩,⟨rf,hx,pc,fr⟩⟩⟩:=a;obtain⟨i',⟨⟨m',n',e',k',r',es'⟩,⟨rf',hb,pc',fr'⟩⟩⟩:=b;unfold qf7 qaf bs at h;simp only[List.append_toArray,List.cons_append,List.nil_append,Value.agg.injEq,Array.mk.injEq,List.cons.injEq,Value.int.injEq,true_and,Value.string.injEq,Value.bool.injEq,and_true,ByteArray.mk.injEq]at h;obtain⟨h1,h2,h3,h4,h5,h6,h7,h8,h9,ha,Ha⟩:=h;have e1:i=i':=by omega
 have e2:m=m':=by omega
 have e6:r=r':=by omega
 subst e1 e2 e6 h3 h4 h5 h7 h8 h9 ha Ha;rfl
structure Fix where
 g:Nat
 bS:Nat
 bp:Nat
 be:Nat
 bn:Nat
 pv:Nat→Value
def qkf(F:Fix)(n:Nat)(vv:Value)(f:Pl.Ft):Array Value:=#[.slice (some ⟨F.bS,0,none⟩) n n,.map (some F.bp),.map (some F.be),.map (some F.bn),vv,.int .i64 f.code,.int .i64 f.kind,bs f.place,.int .i64 f.pos]
structure SrcAt(w:World)(B:Nat)(F:Fix)(S:List Pl.Src):Prop where
 blk:∃cs fz,w.heap[F.bS]?=some (.cells cs 173 fz)
 name:∀i s,S[i]?=some s→w.cell? ⟨F.bS,i*2,none⟩=some (bs s.name)
 slice:∀i s,S[i]?=some s→w.cell? ⟨F.bS,i*2+1,none⟩=some (F.pv i)
 row:∀i s,S[i]?=some s→w.ownsRow B 229 4 (F.pv i) s.parts.length (qb0 s.parts)
def qbu:Nat→List Pl.Src→List (Value×Value)
 | _,[]=>[]
 | i,s::l=>(bs s.name,.int .i64 i)::qbu (i+1) l
def qne(l:List (Pl.En×Pl.Sx)):List (Value×Value):=l.map fun p=>(qf7 p.1,qap p.2)
structure SeAt(w:World)(B:Nat)(F:Fix)(S:List Pl.Src)(vv:Value)(s:Pl.Sr):Prop where
 blk:w.heap[F.g]?=some (.cells (qkf F S.length vv s.fault) 178 (0,0))
 src:SrcAt w B F S
 places:qe8 w F.bp (qbu 1 (S.drop 1))
 ends:qe8 w F.be (qne s.ends)
 le:B≤F.g∧B≤F.be
 apart:F.g≠F.be∧F.bp≠F.be
structure Cue(B:Nat)(F:Fix)(w w':World):Prop where
 below:Below B w w'
 keep:∀k,k<w.heap.size→k≠F.g→k≠F.be→w'.heap[k]?=w.heap[k]?
theorem Cue.refl(B:Nat)(F:Fix)(w:World):Cue B F w w:=⟨Below.refl _ _,fun _ _ _ _=>rfl⟩
theorem Cue.trans{B:Nat}{F:Fix}{a b c:World}(h:Cue B F a b)(k:Cue B F b c):Cue B F a c:=
 ⟨h.below.trans k.below,fun i hi h1 h2=>(k.keep i (Nat.lt_of_lt_of_le hi h.below.size) h1 h2).trans (h.keep i hi h1 h2)⟩
theorem Cue.of_below{B:Nat}{F:Fix}{w w':World}(h:Below w.heap.size w w')(hB:B≤w.heap.size):Cue B F w w':=
 ⟨h.mono hB,fun k hk _ _=>h.block k hk⟩
theorem SrcAt.kept{w w':World}{B:Nat}{F:Fix}{S:List Pl.Src}(h:SrcAt w B F S)(hb:w'.heap[F.bS]?=w.heap[F.bS]?)(hr:∀i s k,S[i]?=some s→(F.pv i).ownBlock=some k→w'.heap[k]?=w.heap[k]?):SrcAt w' B F S:=by
 refine⟨?_,fun i s hs=>(World.cell?_of_block hb).trans (h.name i s hs),fun i s hs=>(World.cell?_of_block hb).trans (h.slice i s hs),fun i s hs=>qac (h.row i s hs) fun k hk=>hr i s k hs hk⟩;obtain⟨cs,fz,hc⟩:=h.blk;exact⟨cs,fz,hb.trans hc⟩
theorem qir:(178:TypeId)≠173:=by decide
theorem qj0:(178:TypeId)≠229:=by decide
theorem qak{w:World}{k b:Nat}{L:List (Value×Value)}{cs:Array Value}{t:TypeId}{fz:Nat×Nat}(h:w.heap[k]?=some (.cells cs t fz))(hm:qe8 w b L):k≠b:=by
 rintro rfl;obtain⟨es,c,hb,_⟩:=hm;rw[h]at hb;cases hb
theorem SeAt.srcKept{w w':World}{B:Nat}{F:Fix}{S:List Pl.Src}{vv:Value}{s:Pl.Sr}(h:SeAt w B F S vv s)(hk:∀k,k<w.heap.size→k≠F.g→k≠F.be→w'.heap[k]?=w.heap[k]?):SrcAt w' B F S:=by
 obtain⟨cs,fz,hc⟩:=h.src.blk;refine h.src.kept (hk _ (Array.getElem?_eq_some_iff.1 hc).1 (fun e=>qae h.blk hc qir e.symm) (qak hc h.ends)) fun i s' k hs hv=>?_;obtain⟨cur,ha⟩:=qad (h.src.row i s' hs) k hv;exact hk k (Array.getElem?_eq_some_iff.1 ha).1 (fun e=>qae h.blk ha qj0 e.symm) (qak ha h.ends)
theorem SeAt.below{w w':World}{B:Nat}{F:Fix}{S:List Pl.Src}{vv:Value}{s:Pl.Sr}(h:SeAt w B F S vv s)(hb:Below w.heap.size w w'):SeAt w' B F S vv s:=
 ⟨(hb.block _ (lta h.blk)).trans h.blk,h.srcKept fun k hk _ _=>hb.block k hk,h.places.heap (hb.block _ h.places.lt),h.ends.heap (hb.block _ h.ends.lt),h.le,h.apart⟩
theorem SeAt.alloc{w:World}{B:Nat}{F:Fix}{S:List Pl.Src}{vv:Value}{s:Pl.Sr}(h:SeAt w B F S vv s)(o:Obj):SeAt (w.alloc o) B F S vv s:=h.below (ba o)
theorem SeAt.drewN{w:World}{B:Nat}{F:Fix}{S:List Pl.Src}{vv:Value}{s:Pl.Sr}(h:SeAt w B F S vv s)(n:Nat):SeAt (w.drewN n) B F S vv s:=⟨h.blk,h.src.kept rfl fun _ _ _ _ _=>rfl,h.places,h.ends,h.le,h.apart⟩
theorem SeAt.other{w:World}{B:Nat}{F:Fix}{S:List Pl.Src}{vv:Value}{s:Pl.Sr}(h:SeAt w B F S vv s){k:Nat}{cs:Array Value}{t:TypeId}{fz:Nat×Nat}(hk:w.heap[k]?=some (.cells cs t fz))(h1:t≠178)(h2:t≠173)(h3:t≠229)(j:Nat)(v:Value):SeAt (w.setCell ⟨k,j,none⟩ v) B F S vv s:=by
 have ha:∀i,i≠k→(w.setCell ⟨k,j,none⟩ v).heap[i]?=w.heap[i]?:=fun i hi=>Below.heap_setCell _ _ _ _ hi;obtain⟨cs',fz',hc⟩:=h.src.blk;refine⟨(ha _ (qae h.blk hk h1.symm)).trans h.blk,h.src.kept (ha _ (qae hc hk h2.symm)) (fun i s' q hs hv=>?_),h.places.heap (ha _ (qak hk h.places).symm),h.ends.heap (ha _ (qak hk h.ends).symm),h.le,h.apart⟩;obtain⟨cur,Ha⟩:=qad (h.src.row i s' hs) q hv;exact ha q (qae Ha hk h3.symm)
theorem SeAt.cell{w:World}{B:Nat}{F:Fix}{S:List Pl.Src}{vv:Value}{s:Pl.Sr}(h:SeAt w B F S vv s):∀(j:Nat) (v:Value),(qkf F S.length vv s.fault)[j]?=some v→w.cell? ⟨F.g,j,none⟩=some v:=fun j v hv=>qaa h.blk j v (by simpa using hv)
theorem SeAt.thaw{w:World}{B:Nat}{F:Fix}{S:List Pl.Src}{vv:Value}{s:Pl.Sr}(h:SeAt w B F S vv s)(j:Nat):w.frozen? ⟨F.g,j,none⟩=false:=by simp[World.frozen?,h.blk]
theorem SeAt.put{w w':World}{B:Nat}{F:Fix}{S:List Pl.Src}{vv:Value}{s:Pl.Sr}(h:SeAt w B F S vv s){l:List (Pl.En×Pl.Sx)}(hm:qe8 w' F.be (qne l))(hg:w.grownBy w' (some F.be)):SeAt w' B F S vv { s with ends:=l }:=by
 have hk:∀k,k<w.heap.size→k≠F.be→w'.heap[k]?=w.heap[k]?:=fun k hk ha=>hg.block k hk (fun e=>ha (Option.some.inj e));exact⟨(hk _ (lta h.blk) h.apart.1).trans h.blk,h.srcKept fun k Ha _ h3=>hk k Ha h3,h.places.heap (hk _ h.places.lt h.apart.2),hm,h.le,h.apart⟩
theorem Cue.put{w w':World}{B:Nat}{F:Fix}(hB:B≤F.be)(ha:F.be<w.heap.size)(hg:w.grownBy w' (some F.be)):Cue B F w w':=
 ⟨⟨hg.os,hg.tape,hg.output,hg.size,fun k hk=>hg.block k (by omega) (fun x=>by have:=Option.some.inj x;omega)⟩,fun k hk _ h2=>hg.block k hk (fun e=>h2 (Option.some.inj e))⟩
theorem qmx(n:List UInt8):∀(l:List Pl.Src) (i:Nat),(Pl.qfs n i l=0→1≤i→∀p∈qbu i l,p.1≠bs n)∧(Pl.qfs n i l≠0→(bs n,Value.int .i64 (Pl.qfs n i l))∈qbu i l)
 | [],i=>⟨fun _ _ p hp=>(by cases hp),fun h=>absurd rfl h⟩
 | s::l,i=>by
   have ih:=qmx n l (i+1);unfold Pl.qfs qbu;by_cases h:s.name=n
   ·rw[if_pos h]
    exact⟨fun h1 h2=>by omega,fun _=>by rw[h];simp⟩
   ·rw[if_neg h]
    refine⟨fun h1 h2 p hp=>?_,fun h1=>List.mem_cons_of_mem _ (ih.2 h1)⟩;rcases List.mem_cons.1 hp with rfl | hp
    ·intro e
     unfold bs at e;injection e with e;injection e with e;exact h (Array.toList_inj.2 e)
    ·exact ih.1 h1 (by omega) p hp
theorem qwu(l:List Pl.Src):∀(i:Nat) (p:Value×Value),p∈qbu i l→∃s∈l,p.1=bs s.name:=by
 induction l with
 | nil=>intro i p hp;cases hp
 | cons s l ih=>
   intro i p hp;rcases List.mem_cons.1 hp with rfl | hp
   ·exact⟨s,by simp,rfl⟩
   ·obtain⟨s',h1,h2⟩:=ih (i+1) p hp
    exact⟨s',List.mem_cons_of_mem _ h1,h2⟩
theorem qql(l:List Pl.Src):∀(i k:Nat) (p:Value×Value),(qbu i l)[k]?=some p→∃s,l[k]?=some s∧p.1=bs s.name:=by
 induction l with
 | nil=>intro i k p hp;simp[qbu]at hp
 | cons s l ih=>
   intro i k p hp;cases k with
   | zero=>simp only[qbu,List.getElem?_cons_zero,Option.some.injEq]at hp;subst hp;exact⟨s,rfl,rfl⟩
   | succ k=>
     obtain⟨s',h1,h2⟩:=ih (i+1) k p (by simpa [qbu] using hp);exact⟨s',by simpa using h1,h2⟩
structure SrcsOk(S:List Pl.Src):Prop where
 few:1≤S.length∧S.length≤7
 one:∀(i j:Nat) (a b:Pl.Src),1≤i→1≤j→S[i]?=some a→S[j]?=some b→a.name=b.name→i=j
 short:∀(i:Nat) (a:Pl.Src),S[i]?=some a→a.name.length≤100000
 parts:∀(i:Nat) (a:Pl.Src),S[i]?=some a→a.parts.length≤2000∧∀p∈a.parts,p.text.length≤2000∧p.pos≤2000∧p.mate≤2000
 wf:∀(i:Nat) (a:Pl.Src),S[i]?=some a→Pl.Wf 0 a.parts
theorem zaf{a b:List UInt8}(h:bs a=bs b):a=b:=by
 unfold bs at h;injection h with h;injection h with h;exact Array.toList_inj.2 h
theorem qwb(s:ByteArray)(h:s.size≤maxLen):∃l,keyOf Tryz.prog 9 (.string s)=some l:=by
 unfold keyOf mapKey;simp[Tryz.underlying9,h]
theorem qx2(l:List UInt8):(⟨l.toArray⟩:ByteArray).size=l.length:=by simp[ByteArray.size]
theorem qon{S:List Pl.Src}(h:SrcsOk S):KeysOk Tryz.prog 9 (qbu 1 (S.drop 1)):=by
 refine⟨fun p hp=>?_,fun i j p q hi hj ha=>?_⟩
 ·obtain⟨s,hs,e⟩:=qwu _ _ _ hp
  obtain⟨k,hk⟩:=List.getElem?_of_mem (List.mem_of_mem_drop hs);rw[e];exact qwb _ (by rw[qx2];have:=h.short k s hk;unfold maxLen;omega)
 ·obtain⟨a,h1,h2⟩:=qql _ _ _ _ hi
  obtain⟨b,h3,h4⟩:=qql _ _ _ _ hj;rw[List.getElem?_drop]at h1 h3;have:=h.one (1+i) (1+j) a b (by omega) (by omega) h1 h3 (zaf (by rw[←h2,←h4,ha]));omega
theorem qy1(w:World):(zeroValue 3).run Tryz.prog w=.ok (.int .i64 0) w:=by
 have e:Tryz.t3.zero=some (.int .i64 0):=by kernel_rfl
 simp[zeroValue,go_sem,e]
theorem SeAt.place{w:World}{B:Nat}{F:Fix}{S:List Pl.Src}{vv:Value}{s:Pl.Sr}(h:SeAt w B F S vv s)(hS:SrcsOk S)(n:List UInt8)(hn:n.length≤100000):(Instr.lookup 174 (.map (some F.bp)) (.string ⟨n.toArray⟩) false).run Tryz.prog w=.ok (.int .i64 (Pl.qai S n:Nat)) w:=by
 obtain⟨kl,ha⟩:=qwb ⟨n.toArray⟩ (by rw[qx2];unfold maxLen;omega);obtain⟨f1,f2⟩:=qmx n (S.drop 1) 1;by_cases h0:Pl.qai S n=0
 ·rw[h0]
  exact qid ql5 Tryz.underlying174 (qy1 w) h.places (qon hS) ha (f1 h0 (Nat.le_refl _)) false
 ·exact qhj ql5 Tryz.underlying174 h.places (qon hS) ha (f2 h0) false
theorem qsv{l:List (Pl.En×Pl.Sx)}{i:Nat}{p:Value×Value}(h:(qne l)[i]?=some p):∃q,l[i]?=some q∧p=(qf7 q.1,qap q.2):=by
 unfold qne at h;rw[List.getElem?_map]at h;obtain⟨q,h1,h2⟩:=Option.map_eq_some_iff.1 h;exact⟨q,h1,h2.symm⟩
theorem qll{n:Nat}{l:List (Pl.En×Pl.Sx)}(h:Pl.EndsOk n l)(hn:n≤7):KeysOk Tryz.prog 180 (qne l):=by
 refine⟨fun p hp=>?_,fun i j p q hi hj ha=>?_⟩
 ·obtain⟨i,hi⟩:=List.getElem?_of_mem hp
  obtain⟨r,h1,rfl⟩:=qsv hi;have:=h.key r (List.mem_of_getElem? h1);exact qq3 this.1.ok this.1.far (by omega)
 ·obtain⟨a,h1,rfl⟩:=qsv hi
  obtain⟨b,h2,rfl⟩:=qsv hj;exact h.one i j a b h1 h2 (qjb ha)
theorem qz4(w:World):(zeroValue 162).run Tryz.prog w=.ok (qap Pl.Sx.none) w:=by
 have e:qap Pl.Sx.none=.agg #[.int .u8 0,.string ⟨#[]⟩,.string ⟨#[]⟩,.int .i64 0,.int .i64 0,.bool false,.bool false,.int .i64 0,.int .i64 0,.int .i64 0]:=rfl;rw[e];have e:Tryz.t162.zero=some (.agg #[.int .u8 0,.string ⟨#[]⟩,.string ⟨#[]⟩,.int .i64 0,.int .i64 0,.bool false,.bool false,.int .i64 0,.int .i64 0,.int .i64 0]):=by kernel_rfl
 simp[zeroValue,go_sem,e]
theorem quy{l:List (Pl.En×Pl.Sx)}{e:Pl.En}(h:Pl.qa1 l e=none):∀p∈qne l,p.1≠qf7 e:=by
 intro p hp;unfold qne at hp;obtain⟨q,h1,rfl⟩:=List.mem_map.1 hp;exact fun x=>Pl.qik h q h1 (qjb x)
theorem q4a{l:List (Pl.En×Pl.Sx)}{e:Pl.En}{x:Pl.Sx}(h:Pl.qa1 l e=some x):(qf7 e,qap x)∈qne l:=List.mem_map.2 ⟨(e,x),Pl.qe4 h,rfl⟩
theorem SeAt.look{w:World}{B:Nat}{F:Fix}{S:List Pl.Src}{vv:Value}{s:Pl.Sr}(h:SeAt w B F S vv s)(hS:SrcsOk S)(ho:Pl.EndsOk S.length s.ends)(e:Pl.En)(he:Pl.SxFit e.2)(hi:e.1≤6)(c:Bool) :
  (Instr.lookup 175 (.map (some F.be)) (qf7 e) c).run Tryz.prog w=.ok (if c then .tuple #[qap ((Pl.qa1 s.ends e).getD Pl.Sx.none),.bool (Pl.qa1 s.ends e).isSome] else qap ((Pl.qa1 s.ends e).getD Pl.Sx.none)) w:=by
 obtain⟨kl,ha⟩:=qq3 he.ok he.far hi;cases hg:Pl.qa1 s.ends e with
 | none=>exact qid qee Tryz.underlying175 (qz4 w) h.ends (qll ho hS.few.2) ha (quy hg) c
 | some x=>exact qhj qee Tryz.underlying175 h.ends (qll ho hS.few.2) ha (q4a hg) c
theorem SeAt.store{w:World}{B:Nat}{F:Fix}{S:List Pl.Src}{vv:Value}{s:Pl.Sr}(h:SeAt w B F S vv s)(hS:SrcsOk S)(ho:Pl.EndsOk S.length s.ends)(e:Pl.En)(he:Pl.SxFit e.2)(hi:e.1≤6)(x:Pl.Sx) :
  ∃w',(Instr.mapUpdate 175 (.map (some F.be)) (qf7 e) (qap x)).run Tryz.prog w=.ok () w'∧SeAt w' B F S vv { s with ends:=Pl.qa5 s.ends e x }∧Cue B F w w'∧w'.heap.size=w.heap.size:=by
 obtain⟨kl,ha⟩:=qq3 he.ok he.far hi;cases hg:Pl.qa1 s.ends e with
 | none=>
   obtain⟨w',h1,h2,h3,h4⟩:=qic (val:=qap x) qee Tryz.underlying175 h.ends (qll ho hS.few.2) ha (quy hg);refine⟨w',h1,h.put ?_ h3,Cue.put h.le.2 h.ends.lt h3,h4⟩;rw[Pl.qeg hg];unfold qne at h2 ⊢;rw[List.map_append];exact h2
 | some y=>
   obtain⟨i,i1,i2⟩:=Pl.qhu hg x;obtain⟨w',h1,h2,h3,h4⟩:=qj2 (val:=qap x) (v:=qap y) qee Tryz.underlying175 h.ends (qll ho hS.few.2) ha i (by unfold qne;rw[List.getElem?_map,i1];rfl);refine⟨w',h1,h.put ?_ h3,Cue.put h.le.2 h.ends.lt h3,h4⟩;rw[i2];unfold qne at h2 ⊢;rw[List.map_set];exact h2
end Go.Proofs.YtfkhljmiehdgmaaGreatDoor
