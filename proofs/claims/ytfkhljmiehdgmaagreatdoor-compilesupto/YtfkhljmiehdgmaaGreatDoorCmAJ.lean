/-
  Steps of the proof.
-/
import Derived.Test.YtfkhljmiehdgmaaGreatDoorCmAI
import Derived.Test.YtfkhljmiehdgmaaGreatDoorCmAH
import Derived.Lib.FieldsP
import Derived.Lib.SpaceUEq
import Derived.Lib.RuneCount
import Derived.BigCall
set_option maxRecDepth 100000
set_option maxHeartbeats 40000000
namespace Go.Proofs.YtfkhljmiehdgmaaGreatDoor.Pl
variable{S:List Src}{R W:List Vt}{l:List (En×Sx)}{B:Nat->List It}{n:Nat}{x:Sx}
def nmOf(S:List Src):List (List UInt8):=(S.drop 1).map (·.name)
def bdOf(S:List Src)(n:Nat):List It:=its (nmOf S) (qab S (n+1))
abbrev ClS(S:List Src)(R:List Vt)(j i:Nat)(x:Sx):Prop:=Cl (bdOf S) (nmOf S) (qab S j) R i x
theorem qyz(n:List UInt8):∀(l:List Src) (i:Nat),1<=i->(qfu n i l=0/\qb6 (l.map (·.name)) n=none)\/∃m,qfu n i l=i+m/\qb6 (l.map (·.name)) n=some m
 |[],i,_=>.inl ⟨rfl,rfl⟩
 |s::l,i,hi=>by
   unfold qfu qb6;rw[List.map_cons,List.findIdx?_cons];by_cases h:s.name=n
   ·rw[if_pos h,if_pos (by simp[h])];exact .inr ⟨0,rfl,rfl⟩
   ·rw[if_neg h,if_neg (by simpa using h)]
    rcases qyz n l (i+1) (by omega)with⟨a,b⟩|⟨m,a,b⟩
    ·unfold qb6 at b;rw[b];exact .inl ⟨a,rfl⟩
    ·unfold qb6 at b;rw[b];exact .inr ⟨m+1,by rw[a];omega,rfl⟩
theorem qhy(S:List Src)(n:List UInt8):(qai S n=0/\qb6 (nmOf S) n=none)\/∃m,qai S n=m+1/\qb6 (nmOf S) n=some m:=by
 rcases qyz n (S.drop 1) 1 (Nat.le_refl _)with h|⟨m,a,b⟩
 ·exact .inl h
 ·exact .inr ⟨m,by unfold qai;rw[a];omega,b⟩
section
variable {B:Nat->List It}{N:List (List UInt8)}{P:List Pt}{R:List Vt}{i j m:Nat}{x y:Sx}
theorem Cl.next(h:Cl B N P R i x)(hm:Mv B N P i x j y):Cl B N P R j y:=fun n k z m hw ha=>h (n+1) k z m ⟨j,y,hm,hw⟩ ha
theorem Cl.here(h:Cl B N P R i x)(ha:At N P i m):(m,x)∈R:=h 0 i x m ⟨rfl,rfl⟩ ha
end
structure EndS(S:List Src)(R W:List Vt)(l:List (En×Sx)):Prop where
 in_:∀p∈l,(p.1.1 - 1,p.1.2)∈R
 no:∀p∈l,p.2.isNone=true->(p.1.1 - 1,p.1.2)∈W\/∀y,¬Done (bdOf S) (p.1.1 - 1) p.1.2 y
 yes:∀p∈l,p.2.isNone=false->Done (bdOf S) (p.1.1 - 1) p.1.2 p.2
theorem q68(h:EndS S R W l){m:Nat}{x v:Sx}(ha:(m,x)∈R)(hn:v.isNone=true->(m,x)∈W\/∀y,¬Done (bdOf S) m x y)(hy:v.isNone=false->Done (bdOf S) m x v):EndS S R W (qa5 l (m+1,x) v):=
 ⟨fun p hp=>(qhm hp).elim (fun q=>by rw[q];exact ha) (h.in_ p),fun p hp=>(qhm hp).elim (fun q=>by rw[q];exact hn) (h.no p),fun p hp=>(qhm hp).elim (fun q=>by rw[q];exact hy) (h.yes p)⟩
theorem quj:∀(l:List (En×Sx)),(∀p∈l,1<=p.1.1)->(l.map (·.1)).Nodup->(l.map fun p=>(p.1.1 - 1,p.1.2)).Nodup
 |[],_,_=>List.nodup_nil
 |p::l,hk,h=>by
   rw[List.map_cons,List.nodup_cons]at h |-;refine⟨fun q=>h.1 ?_,quj l (fun p hp=>hk p (List.mem_cons_of_mem _ hp)) h.2⟩;obtain⟨q,hq,e⟩:=List.mem_map.1 q;injection e with e1 e2;have h1:=hk p List.mem_cons_self;have h2:=hk q (List.mem_cons_of_mem _ hq);exact List.mem_map.2 ⟨q,hq,Prod.ext (by omega) e2⟩
theorem q4s(h:EndS S R W l)(hk:EndsOk S.length l){m:Nat}{x:Sx}(hg:qa1 l (m+1,x)=none)(ha:(m,x)∈R):l.length+1<=R.length:=by
 have Ha:((m,x)::l.map fun p=>(p.1.1 - 1,p.1.2)).Nodup:=by
  rw[List.nodup_cons];constructor
  ·intro q
   obtain⟨p,hp,e⟩:=List.mem_map.1 q;injection e with e1 e2;have:=(hk.key p hp).2.1;exact qin hg p hp (Prod.ext (by show p.1.1=m+1;omega) e2)
  ·have h1:=qij hk.one
   refine quj l (fun p hp=>(hk.key p hp).2.1) h1
 have:=qfh _ R Ha (fun u hu=>by
  rcases List.mem_cons.1 hu with rfl|q
  ·exact ha
  ·obtain⟨p,hp,rfl⟩:=List.mem_map.1 q
   exact h.in_ p hp)
 simpa using this
def BehS(S:List Src)(R:List Vt)(beh:Sr->List UInt8->Sx->Sr×Sx)(l:Nat):Prop:=∀(s:Sr) (t:List UInt8) (x:Sx) (m:Nat) (W:List Vt),qb6 (nmOf S) t=some m->EndsOk S.length s.ends->EndS S R W s.ends->(m,x)∈R->SxFit x->(∀u∈W,Need (bdOf S) u (m,x))->l<=s.ends.length ->
 EndS S R W (beh s t x).1.ends/\(beh s t x).1.fault=s.fault/\((beh s t x).2.isNone=true->∀y,¬Done (bdOf S) m x y)/\((beh s t x).2.isNone=false->Done (bdOf S) m x (beh s t x).2)
theorem qy6{α:Type}{l:List (En×α)}(h1:qjl l){e:En}{v:α}{p:En×α}(h:p∈qa5 l e v):p=(e,v)\/(p∈l/\p.1≠e):=by
 rcases qhm h with q|q
 ·exact .inl q
 ·by_cases he:p.1=e
  ·have hm:(e,v)∈qa5 l e v:=qe6 (by rw[qel,if_pos rfl])
   obtain⟨i,hi⟩:=List.getElem?_of_mem h;obtain⟨j,hj⟩:=List.getElem?_of_mem hm;have:=qkr h1 e v i j _ _ hi hj he;subst this;rw[hi]at hj;exact .inl (Option.some.inj hj)
  ·exact .inr ⟨q,he⟩
theorem q2d{o:Nat}{L:List Pt}(h:Wf o L):L=[]\/(∃p l,L=p::l/\(p.kind=1\/p.kind=2\/p.kind=6)/\Wf (o+1) l)\/∃p q b l,L=p::(b++q::l)/\(p.kind=3\/p.kind=4)/\p.mate=o+1+b.length/\Wf (o+b.length+2) l:=by
 cases h with
 |nil=>exact .inl rfl
 |leaf _ p l h1 h2=>exact .inr (.inl ⟨p,l,rfl,h1,h2⟩)
 |sec _ p q b l h1 _ h3 _ _ h6=>exact .inr (.inr ⟨p,q,b,l,by simp,h1,h3,h6⟩)
theorem qn1{y:Sx}(h:Done B n x y):Via B (B n) x y:=by
 obtain⟨h,q⟩:=h;cases h with
 |zero=>cases q
 |succ h=>exact⟨h,q⟩
theorem qyo{pre suf:List It}{z:Sx}(h:Via B pre x z)(hn:∀y,¬Done B n z y)(y:Sx):¬Via B (pre++.ca n::suf) x y:=by
 rintro⟨a,q⟩;rw[qh2]at q;cases hp:go (fin B a) pre x with
 |none=>rw[hp]at q;cases q
 |some z'=>
   rw[hp]at q;have ez:z'=z:=qk7 ⟨a,hp⟩ h;subst ez
   have q:(match fin B a n z' with
    |some y=>go (fin B a) suf y
    |none=>none)=some y:=q
   cases hf:fin B a n z' with
   |none=>rw[hf]at q;cases q
   |some t=>exact hn t ⟨a,hf⟩
theorem zac{beh:Sr->List UInt8->Sx->Sr×Sx}{l:Nat}(hb:BehS S R beh l)(He:∀s t x,qb6 (nmOf S) t=none->beh s t x=(s,x))(Hf:q99 S.length beh l)(P:List Pt)(x0:Sx)(W:List Vt)(hW:∀u∈W,∀pre n z suf,its (nmOf S) P=pre++.ca n::suf->Via (bdOf S) pre x0 z->Need (bdOf S) u (n,z)) :
  ∀(k a:Nat) (s:Sr) (x:Sx) (pre:List It),P.length<a+k->Wf a (P.drop a)->EndsOk S.length s.ends->EndS S R W s.ends->l<=s.ends.length->qp8 x->(x.isNone=true->∀y,¬Via (bdOf S) (its (nmOf S) P) x0 y) ->
   (x.isNone=false->Via (bdOf S) pre x0 x/\its (nmOf S) P=pre++qdq (nmOf S) P a/\Cl (bdOf S) (nmOf S) P R a x) ->
   EndS S R W (qdh beh P k a s x).1.ends/\(qdh beh P k a s x).1.fault=s.fault/\((qdh beh P k a s x).2.isNone=true->∀y,¬Via (bdOf S) (its (nmOf S) P) x0 y)/\((qdh beh P k a s x).2.isNone=false->Via (bdOf S) (its (nmOf S) P) x0 (qdh beh P k a s x).2):=by
 intro k
 induction k with
 |zero=>
   intro a s x pre hk hw h hs hl hx Hc Hb;refine⟨hs,rfl,Hc,fun hn=>?_⟩;obtain⟨hv,hi,_⟩:=Hb hn;rw[qik (by omega),List.append_nil]at hi;rw[<-hi]at hv;exact hv
 |succ k ih=>
   intro a s x pre hk hw h hs hl hx Hc Hb;unfold qdh;by_cases hn:x.isNone=true
   ·rw[if_pos hn];exact⟨hs,rfl,Hc,fun q=>by rw[hn]at q;cases q⟩
   rw[if_neg hn];have hf:=qkv hx hn;have hn:=Bool.eq_false_iff.2 hn;obtain⟨hv,hi,hc⟩:=Hb hn;cases hp:P[a]? with
   |none=>
     refine⟨hs,rfl,Hc,fun _=>?_⟩;rw[qik (List.getElem?_eq_none_iff.1 hp),List.append_nil]at hi;rw[<-hi]at hv;exact hv
   |some p=>
     simp only;have hg:=(List.getElem?_eq_some_iff.1 hp).1;have hd:P.drop a=p::P.drop (a+1):=by
      rw[List.drop_eq_getElem_cons hg,(List.getElem?_eq_some_iff.1 hp).2]
     have ha:(p.kind=1\/p.kind=2\/p.kind=6)->Wf (a+1) (P.drop (a+1)):=by
      intro hj;rcases q2d hw with q|⟨p',l',q,_,q2⟩|⟨p',q',b,l',q,q1,_⟩
      ·rw[hd]at q;cases q
      ·rw[hd]at q;injection q with e1 e2;rw[e2];exact q2
      ·rw[hd]at q;injection q with e1 e2;rw[<-e1]at q1;omega
     by_cases k1:p.kind=1
     ·rw[if_pos k1]
      have Ha:=qhf p.text x hf;refine ih (a+1) s _ (pre++[.tx p.text]) (by omega) (ha (.inl k1)) h hs hl (.inr Ha) (fun q=>by rw[qf8 Ha]at q;cases q) fun _=>⟨qfb hv (q2i _ _ _),by rw[hi,qi9 hp k1,List.append_assoc];rfl,hc.next ⟨p,hp,.inl ⟨k1,rfl,rfl⟩⟩⟩
     rw[if_neg k1];by_cases k2:p.kind=2
     ·rw[if_pos k2]
      have Ha:=qim hf;refine ih (a+1) s _ (pre++[.ho]) (by omega) (ha (.inr (.inl k2))) h hs hl (.inr Ha) (fun q=>by rw[qf8 Ha]at q;cases q) fun _=>⟨qfb hv (q2j _ _),by rw[hi,qja hp k2,List.append_assoc];rfl,hc.next ⟨p,hp,.inr (.inl ⟨k2,rfl,rfl⟩)⟩⟩
     rw[if_neg k2];by_cases k3:p.kind=3\/p.kind=4
     ·rw[if_pos k3]
      rcases q2d hw with q|⟨p',l',q,q1,_⟩|⟨p',q',b,l',q,_,q2,q3⟩
      ·rw[hd]at q;cases q
      ·rw[hd]at q;injection q with e1 e2;rw[<-e1]at q1;omega
      ·rw[hd]at q
       injection q with e1 e2;subst e1;have Hg:=congrArg List.length e2;rw[List.length_drop,List.length_append,List.length_cons]at Hg;refine ih (p.mate+1) s x pre (by omega) ?_ h hs hl hx Hc fun _=>⟨hv,by rw[hi,qks hp k3 (by omega)],hc.next ⟨p,hp,.inr (.inr (.inl ⟨k3,.inr rfl,rfl⟩))⟩⟩;have e3:P.drop (p.mate+1)=l':=by
        rw[show p.mate+1=(a+1)+(b.length+1) by omega,<-List.drop_drop,e2,show b++q'::l'=(b++[q'])++l' by simp,List.drop_left' (by simp)]
       rw[e3,show p.mate+1=a+b.length+2 by omega];exact q3
     rw[if_neg k3];by_cases k6:p.kind=6
     ·rw[if_pos k6]
      rcases qhy S p.text with⟨z0,z1⟩|⟨n,z0,z1⟩
      ·rw[He s p.text x z1]
       exact ih (a+1) s x pre (by omega) (ha (.inr (.inr k6))) h hs hl hx Hc fun _=>⟨hv,by rw[hi,qjx hp (.inr ⟨k6,z1⟩)],hc.next ⟨p,hp,.inr (.inr (.inr ⟨k6,rfl,.inl ⟨z1,rfl⟩⟩))⟩⟩
      ·have he:=hi.trans (congrArg (pre++·) (qgr hp k6 z1))
       have Hi:(n,x)∈R:=hc.here ⟨p,hp,k6,z1⟩;obtain⟨e1,e2,e3,e4⟩:=hb s p.text x n W z1 h hs Hi hf (fun u hu=>hW u hu _ _ _ _ he hv) hl;obtain⟨g1,g2⟩:=Hf s p.text x h hl hf;have:=ih (a+1) (beh s p.text x).1 (beh s p.text x).2 (pre++[.ca n]) (by omega) (ha (.inr (.inr k6))) g1.ok e1 (Nat.le_trans hl g1.more) g2 (fun q=>by rw[he];exact qyo hv (e3 q)) fun q=>⟨qfb hv (qto (e4 q)),by rw[hi,qgr hp k6 z1,List.append_assoc];rfl,hc.next ⟨p,hp,.inr (.inr (.inr ⟨k6,rfl,.inr ⟨n,z1,e4 q⟩⟩))⟩⟩;exact⟨this.1,this.2.1.trans e2,this.2.2⟩
     rw[if_neg k6];rcases q2d hw with q|⟨p',l',q,q1,_⟩|⟨p',q',b,l',q,q1,_⟩
     ·rw[hd]at q;cases q
     ·rw[hd]at q;injection q with e1 e2;rw[<-e1]at q1;omega
     ·rw[hd]at q;injection q with e1 e2;rw[<-e1]at q1;omega
theorem behS(hS:∀i,Wf 0 (qab S i))(hR:R.length<=256)(He:∀v∈R,ClS S R (v.1+1) 0 v.2):∀(k l:Nat),257<=l+k->BehS S R (behV S k) l:=by
 intro k
 induction k with
 |zero=>
   intro l hk s t x m W hi h hs ha hx hW hl;have:=h.few;omega
 |succ k ih=>
   intro l hk s t x m W hi h hs ha hx hW hl;obtain⟨z0,z1⟩|⟨n,z0,z1⟩:=qhy S t
   ·rw[z1]at hi;cases hi
   rw[hi]at z1;obtain rfl:=Option.some.inj z1;unfold behV;rw[z0,if_neg (by omega)];cases hg:qa1 s.ends (m+1,x)with
   |some e=>
     have hm:=qe6 hg;refine⟨hs,rfl,fun q=>?_,fun q=>hs.yes _ hm q⟩;rcases hs.no _ hm q with z|z
     ·exact Need.self (hW _ z)
     ·exact z
   |none=>
     simp only;have Hb:=q4s hs h hg ha;rw[if_neg (by omega)];have hf:(qa5 s.ends (m+1,x) Sx.none).length=s.ends.length+1:=by rw[qek hg];simp
     have hc:=qe4 S t (by omega);rw[z0]at hc;have Ha:EndsOk S.length (qa5 s.ends (m+1,x) Sx.none):=qh3 h ⟨hx,hc⟩ qnv (by omega);have Hf:EndS S R ((m,x)::W) (qa5 s.ends (m+1,x) Sx.none):=q68 ⟨hs.in_,fun p hp q=>(hs.no p hp q).imp (List.mem_cons_of_mem _) id,hs.yes⟩ ha (fun _=>.inl List.mem_cons_self) (fun q=>by cases q);have hw:=zac (ih (s.ends.length+1) (by omega)) (fun s t x ht=>by
       obtain⟨a,b⟩|⟨n,a,b⟩:=qhy S t
       ·cases k with
        |zero=>rfl
        |succ k=>unfold behV;rw[if_pos a]
       ·rw[ht]at b;cases b) (qgd S k (s.ends.length+1) (by omega)) (qab S (m+1)) x ((m,x)::W) (fun u hu pre n z suf he hv=>(List.mem_cons.1 hu).elim (fun e=>by rw[e];exact qxd he hv) fun q=>(hW u q).trans (qxd he hv)) ((qab S (m+1)).length+1) 0 { s with ends:=qa5 s.ends (m+1,x) Sx.none } x [] (by omega) (hS (m+1)) Ha Hf (by show s.ends.length+1<=(qa5 _ _ _).length;omega) (.inr hx) (fun q=>by rw[qf8 hx]at q;cases q) fun _=>⟨qrv _ _,rfl,He (m,x) ha⟩
     have hb:=qk6 (qgd S k (s.ends.length+1) (by omega)) (qab S (m+1)) ((qab S (m+1)).length+1) 0 { s with ends:=qa5 s.ends (m+1,x) Sx.none } x Ha (by show s.ends.length+1<=(qa5 _ _ _).length;omega) (.inr hx);generalize qdh (behV S k) (qab S (m+1)) ((qab S (m+1)).length+1) 0 { s with ends:=qa5 s.ends (m+1,x) Sx.none } x=r at hw hb |-;refine⟨⟨fun p hp=>(qhm hp).elim (fun q=>by rw[q];exact ha) (hw.1.in_ p),fun p hp q=>?_,fun p hp q=>?_⟩,hw.2.1,fun q y hd=>hw.2.2.1 q y (qn1 hd),fun q=>qrw (hw.2.2.2 q)⟩
     ·rcases qy6 hb.1.ok.one hp with rfl|⟨hm,Hc⟩
      ·exact .inr fun y hd=>hw.2.2.1 q y (qn1 hd)
      ·rcases hw.1.no p hm q with z|z
       ·rcases List.mem_cons.1 z with e|z
        ·injection e with e1 e2
         have:=(hb.1.ok.key p hm).2.1;exact absurd (Prod.ext (by show p.1.1=m+1;omega) e2) Hc
        ·exact .inl z
       ·exact .inr z
     ·rcases qy6 hb.1.ok.one hp with rfl|⟨hm,Hc⟩
      ·exact qrw (hw.2.2.2 q)
      ·exact hw.1.yes p hm q
def ThD(S:List Src):Nat->Nat->Nat->Nat->Sx->List Vt->List Vt->Ft->Option Sx->Prop
 |0,_,_,_,_,_,_,_,_=>False
 |n+1,j,i,stop,x,R,R',f,e=>
   (stop<=i/\R'=R/\f=Ft.none/\e=some x)\/∃p,i<stop/\(qab S j)[i]?=some p/\(
    (p.kind=1/\∃t,qbj x p.text=some t/\R'=R/\f=⟨3,14,qen S j,p.pos+t⟩/\e=Option.none) \/
    (p.kind=1/\qbj x p.text=Option.none/\ThD S n j (i+1) stop (qav x p.text) R R' f e) \/
    (p.kind=2/\x.hole.2≠0/\R'=R/\f=⟨3,x.hole.2,qen S j,p.pos⟩/\e=Option.none) \/
    (p.kind=2/\x.hole.2=0/\ThD S n j (i+1) stop x.behindHole R R' f e) \/
    ((p.kind=3\/p.kind=4)/\∃R1 f1 e1,ThD S n j (i+1) p.mate x R R1 f1 e1 /\
      ((f1.code≠0/\R'=R1/\f=f1/\e=Option.none)\/(f1.code=0/\(∃y,e1=some y/\y≠x)/\R'=R1/\f=⟨3,13,qen S j,p.pos⟩/\e=Option.none) \/
        (f1.code=0/\(e1=Option.none\/e1=some x)/\p.mate<stop/\ThD S n j (p.mate+1) stop x R1 R' f e))) \/
    (p.kind=6/\qb6 (nmOf S) p.text=Option.none/\ThD S n j (i+1) stop x R R' f e) \/
    (p.kind=6/\∃m,qb6 (nmOf S) p.text=some m/\∃R1 f1,(((m,x)∈R/\R1=R/\f1=Ft.none)\/((m,x)∉R/\∃e1,ThD S n (m+1) 0 (qab S (m+1)).length x (R++[(m,x)]) R1 f1 e1)) /\
     ((f1.code≠0/\R'=R1/\f=f1/\e=Option.none)\/(f1.code=0/\∃y,Done (bdOf S) m x y/\ThD S n j (i+1) stop y R1 R' f e)\/(f1.code=0/\(∀y,¬Done (bdOf S) m x y)/\R'=R1/\f=Ft.none/\e=Option.none))))
theorem q5p(S:List Src):∀(n j i stop:Nat) (x:Sx) (R R':List Vt) (f:Ft) (e:Option Sx),ThD S n j i stop x R R' f e->ThD S (n+1) j i stop x R R' f e:=by
 intro n
 induction n with
 |zero=>intro j i stop x R R' f e h;exact h.elim
 |succ n ih=>
   intro j i stop x R R' f e h;rcases h with h|⟨p,hi,hp,h⟩
   ·exact .inl h
   refine .inr ⟨p,hi,hp,?_⟩;rcases h with h|⟨a,b,h⟩|h|⟨a,b,h⟩|⟨a,R1,f1,e1,h1,h⟩|⟨a,b,h⟩|⟨a,m,b,R1,f1,h1,h⟩
   ·exact .inl h
   ·exact .inr (.inl ⟨a,b,ih _ _ _ _ _ _ _ _ h⟩)
   ·exact .inr (.inr (.inl h))
   ·exact .inr (.inr (.inr (.inl ⟨a,b,ih _ _ _ _ _ _ _ _ h⟩)))
   ·exact .inr (.inr (.inr (.inr (.inl ⟨a,R1,f1,e1,ih _ _ _ _ _ _ _ _ h1,h.imp id (Or.imp id fun q=>⟨q.1,q.2.1,q.2.2.1,ih _ _ _ _ _ _ _ _ q.2.2.2⟩)⟩))))
   ·exact .inr (.inr (.inr (.inr (.inr (.inl ⟨a,b,ih _ _ _ _ _ _ _ _ h⟩)))))
   ·exact .inr (.inr (.inr (.inr (.inr (.inr ⟨a,m,b,R1,f1,h1.imp id fun q=>⟨q.1,q.2.imp fun e1 z=>ih _ _ _ _ _ _ _ _ z⟩,h.imp id (Or.imp (fun q=>⟨q.1,q.2.imp fun y z=>⟨z.1,ih _ _ _ _ _ _ _ _ z.2⟩⟩) id)⟩)))))
theorem qnn{S:List Src}{n n' j i stop:Nat}{x:Sx}{R R':List Vt}{f:Ft}{e:Option Sx}(h:ThD S n j i stop x R R' f e)(hn:n<=n'):ThD S n' j i stop x R R' f e:=by
 induction hn with
 |refl=>exact h
 |step _ ih=>exact q5p S _ _ _ _ _ _ _ _ _ ih
theorem qhu(S:List Src):∀(n j i stop:Nat) (x:Sx) (R R':List Vt) (f:Ft) (e:Option Sx),ThD S n j i stop x R R' f e->f=Ft.none\/f.code≠0:=by
 intro n
 induction n with
 |zero=>intro j i stop x R R' f e h;exact h.elim
 |succ n ih=>
   intro j i stop x R R' f e h;rcases h with⟨_,_,h,_⟩|⟨p,hi,hp,h⟩
   ·exact .inl h
   rcases h with⟨_,t,_,_,h,_⟩|⟨a,b,h⟩|⟨_,_,_,h,_⟩|⟨a,b,h⟩|⟨a,R1,f1,e1,h1,h⟩|⟨a,b,h⟩|⟨a,m,b,R1,f1,h1,h⟩
   ·rw[h];exact .inr (by simp)
   ·exact ih _ _ _ _ _ _ _ _ h
   ·rw[h];exact .inr (by simp)
   ·exact ih _ _ _ _ _ _ _ _ h
   ·rcases h with⟨q,_,e,_⟩|⟨_,_,_,e,_⟩|⟨_,_,_,h⟩
    ·rw[e];exact .inr q
    ·rw[e];exact .inr (by simp)
    ·exact ih _ _ _ _ _ _ _ _ h
   ·exact ih _ _ _ _ _ _ _ _ h
   ·rcases h with⟨q,_,e,_⟩|⟨_,y,_,h⟩|⟨_,_,_,e,_⟩
    ·rw[e];exact .inr q
    ·exact ih _ _ _ _ _ _ _ _ h
    ·exact .inl e
variable{S:List Src}{RR:List Vt}{s:Sr}
theorem q2c{o:Nat}{l:List Pt}(h:Wf o l):∀(i:Nat) (p:Pt),l[i]?=some p->(p.kind=3\/p.kind=4)->∃q,l[p.mate - o]?=some q/\q.kind=5/\q.mate=o+i/\o+i<p.mate/\p.mate<o+l.length:=by
 induction h with
 |nil o=>intro i p hp;simp at hp
 |leaf o q l hk hw ih=>
   intro i p hp ha;cases i with
   |zero=>simp at hp;subst hp;omega
   |succ i=>
     obtain⟨u,h1,h2,h3,h4,h5⟩:=ih i p (by simpa using hp) ha;exact⟨u,by rw[show p.mate - o=(p.mate - (o+1))+1 by omega,List.getElem?_cons_succ];exact h1,h2,by omega,by omega,by rw[List.length_cons];omega⟩
 |sec o q z b l hq hz h1 h2 hb hl ihb ihl=>
   intro i p hp ha;have e:q::b++z::l=q::(b++z::l):=by simp
   rw[e]at hp |-;simp only[List.length_cons,List.length_append];cases i with
   |zero=>
     simp only[List.getElem?_cons_zero,Option.some.injEq]at hp;subst hp;refine⟨z,?_,hz,by omega,by omega,by omega⟩;rw[h1,show o+1+b.length - o=b.length+1 by omega,List.getElem?_cons_succ,List.getElem?_append_right (Nat.le_refl _),Nat.sub_self];rfl
   |succ i=>
     simp only[List.getElem?_cons_succ]at hp;rw[List.getElem?_append]at hp;split at hp
     ·obtain⟨u,a1,a2,a3,a4,a5⟩:=ihb i p hp ha
      exact⟨u,by rw[show p.mate - o=(p.mate - (o+1))+1 by omega,List.getElem?_cons_succ,List.getElem?_append_left (by omega)];exact a1,a2,by omega,by omega,by omega⟩
     ·rename_i hi
      cases hx:i - b.length with
      |zero=>rw[hx]at hp;simp at hp;subst hp;omega
      |succ j=>
        rw[hx]at hp;obtain⟨u,a1,a2,a3,a4,a5⟩:=ihl j p (by simpa using hp) ha;exact⟨u,by rw[show p.mate - o=(p.mate - (o+b.length+2)+1+b.length)+1 by omega,List.getElem?_cons_succ,List.getElem?_append_right (by omega),show p.mate - (o+b.length+2)+1+b.length - b.length=(p.mate - (o+b.length+2))+1 by omega,List.getElem?_cons_succ];exact a1,a2,by omega,by omega,by omega⟩
structure Sim(S:List Src)(RR:List Vt)(s:Sr)(R:List Vt):Prop where
 inv:Inv S s
 ends:EndS S RR [] s.ends
 ok:s.fault=Ft.none
 keys:∀m x,qa1 s.nums (m+1,x)≠Option.none↔(m,x)∈R
 one:1<=s.nums.length
theorem Sim.mark{R:List Vt}(h:Sim S RR s R)(v a:Nat)(z:Int):Sim S RR (s.mark v a z) R:=⟨h.inv.mark v a z,h.ends,h.ok,h.keys,h.one⟩
theorem qy4(h:Inv S s)(m:Nat)(x:Sx):qg1 s (m+1,x)=0↔qa1 s.nums (m+1,x)=Option.none:=by
 unfold qg1;cases hg:qa1 s.nums (m+1,x)with
 |none=>simp
 |some v=>
   have:=h.zero _ (qe6 hg);simp only[Option.getD_some,reduceCtorEq,iff_false];intro q;have:=this q;simp only at this;omega
def qp9(S:List Src)(RR:List Vt)(k j v stop nf i:Nat)(s:Sr)(x:Sx)(B:List (Sx×Nat))(R':List Vt)(f:Ft)(e:Option Sx):Prop:=
 (f.code≠0->(goV (nmV S k) S j v (qab S j) nf i s x B).fault=f) /\
 (f=Ft.none->∃s' nf',Sim S RR s' R'/\(qab S j).length<stop+nf'/\s.nums.length<=s'.nums.length /\
  (∀y,e=some y->goV (nmV S k) S j v (qab S j) nf i s x B=goV (nmV S k) S j v (qab S j) nf' stop s' y B) /\
  (e=Option.none->(B=[]->goV (nmV S k) S j v (qab S j) nf i s x B=s')/\∀B0 b,B=B0++[(b,stop)]->goV (nmV S k) S j v (qab S j) nf i s x B=goV (nmV S k) S j v (qab S j) nf' stop s' b B))
theorem qp9.of_eq{R':List Vt}{k j v stop nf i nf2 i2:Nat}{s2:Sr}{x x2:Sx}{B:List (Sx×Nat)}{f:Ft}{e:Option Sx}(h:qp9 S RR k j v stop nf2 i2 s2 x2 B R' f e)(hg:goV (nmV S k) S j v (qab S j) nf i s x B=goV (nmV S k) S j v (qab S j) nf2 i2 s2 x2 B)(hn:s.nums.length<=s2.nums.length):qp9 S RR k j v stop nf i s x B R' f e:=by
 unfold qp9;rw[hg];refine⟨h.1,fun q=>?_⟩;obtain⟨s',nf',a,b,c,d⟩:=h.2 q;exact⟨s',nf',a,b,Nat.le_trans hn c,d⟩
theorem zak(hS:∀i,Wf 0 (qab S i))(hR:RR.length<=256)(Hl:∀v∈RR,ClS S RR (v.1+1) 0 v.2):∀(n j i stop:Nat) (x:Sx) (R R':List Vt) (f:Ft) (e:Option Sx),ThD S n j i stop x R R' f e->∀(k v nf:Nat) (s:Sr) (B:List (Sx×Nat)),Sim S RR s R->ClS S RR j i x->SxFit x->(∀b∈B,SxFit b.1)->258<=s.nums.length+k->(qab S j).length<i+nf->i<=stop->stop<=(qab S j).length->(B=[]\/∃B0 b,B=B0++[(b,stop)])->qp9 S RR k j v stop nf i s x B R' f e:=by
 intro n
 induction n with
 |zero=>intro j i stop x R R' f e h;exact h.elim
 |succ n ih=>
   intro j i stop x R R' f e h k v nf s B hs hc hx hB hk Hp hi He hb;rcases h with⟨h0,rfl,rfl,rfl⟩|⟨p,hj,hp,h⟩
   ·obtain rfl:i=stop:=by omega
    exact⟨fun q=>absurd rfl q,fun _=>⟨s,nf,hs,Hp,Nat.le_refl _,fun y hy=>by rw[Option.some.inj hy],fun q=>by cases q⟩⟩
   obtain⟨nf,rfl⟩:∃m,nf=m+1:=⟨nf - 1,by omega⟩;rcases h with⟨k1,t,ht,rfl,rfl,rfl⟩|⟨k1,ht,h⟩|⟨k2,ht,rfl,rfl,rfl⟩|⟨k2,ht,h⟩|⟨k3,R1,f1,e1,h1,h⟩|⟨k6,ha,h⟩|⟨k6,m,ha,R1,f1,h1,h⟩
   ·refine⟨fun _=>?_,fun q=>by cases q⟩
    unfold goV;rw[hp];simp only;rw[if_pos k1,ht];rfl
   ·refine qp9.of_eq (ih _ _ _ _ _ _ _ _ h k v nf s B hs (hc.next ⟨p,hp,.inl ⟨k1,rfl,rfl⟩⟩) (qhf _ _ hx) hB hk (by omega) hj He hb) ?_ (Nat.le_refl _)
    conv=>lhs;unfold goV
    rw[hp];simp only;rw[if_pos k1,ht]
   ·refine⟨fun _=>?_,fun q=>by cases q⟩
    unfold goV;rw[hp];simp only;rw[if_neg (by omega),if_pos k2,if_pos ht];rfl
   ·refine qp9.of_eq (ih _ _ _ _ _ _ _ _ h k v nf (s.mark v i x.hole.1) B (hs.mark _ _ _) (hc.next ⟨p,hp,.inr (.inl ⟨k2,rfl,rfl⟩)⟩) (qim hx) hB hk (by omega) hj He hb) ?_ (Nat.le_refl _)
    conv=>lhs;unfold goV
    rw[hp];simp only;rw[if_neg (by omega),if_pos k2,if_neg (by simpa using ht)]
   ·obtain⟨q,q1,q2,q3,q4,q5⟩:=q2c (hS j) i p hp k3
    simp only[Nat.sub_zero,Nat.zero_add]at q1 q3 q4 q5;have hg:goV (nmV S k) S j v (qab S j) (nf+1) i s x B=goV (nmV S k) S j v (qab S j) nf (i+1) s x (B++[(x,p.mate)]):=by
     conv=>lhs;unfold goV
     rw[hp];simp only;rw[if_neg (by omega),if_neg (by omega),if_pos k3]
    have Hc:=ih _ _ _ _ _ _ _ _ h1 k v nf s (B++[(x,p.mate)]) hs (hc.next ⟨p,hp,.inr (.inr (.inl ⟨k3,.inl rfl,rfl⟩))⟩) hx (fun b hq=>(List.mem_append.1 hq).elim (hB b) fun z=>by rw[List.mem_singleton.1 z];exact hx) hk (by omega) (by omega) (by omega) (.inr ⟨B,x,rfl⟩);have hm:∀(y:Sx) (s1:Sr) (n1:Nat),goV (nmV S k) S j v (qab S j) (n1+1) p.mate s1 y (B++[(x,p.mate)])=if y≠x then s1.wrong S j 13 p.pos else goV (nmV S k) S j v (qab S j) n1 (p.mate+1) s1 y B:=fun y s1 n1=>by
     conv=>lhs;unfold goV
     rw[q1];simp only;rw[if_neg (by omega),if_neg (by omega),if_neg (by omega),if_pos q2,List.getLast?_concat,List.dropLast_concat,q3];simp only[qi4,hp]
    rcases h with⟨hf,rfl,rfl,rfl⟩|⟨hf,⟨y,rfl,Hq⟩,rfl,rfl,rfl⟩|⟨hf,he,hr,h⟩
    ·exact⟨fun _=>by rw[hg];exact Hc.1 hf,fun z=>by rw[z]at hf;exact absurd rfl hf⟩
    ·obtain⟨s1,nf1,Hm,Hr,Hn,hy,_⟩:=Hc.2 ((qhu S _ _ _ _ _ _ _ _ _ h1).resolve_right fun z=>z hf)
     obtain⟨n1,rfl⟩:∃n1,nf1=n1+1:=⟨nf1 - 1,by omega⟩;refine⟨fun _=>?_,fun z=>by cases z⟩;rw[hg,hy y rfl,hm,if_pos Hq];rfl
    ·obtain⟨s1,nf1,Hm,Hr,Hn,hy,hz⟩:=Hc.2 ((qhu S _ _ _ _ _ _ _ _ _ h1).resolve_right fun z=>z hf)
     obtain⟨n1,rfl⟩:∃n1,nf1=n1+1:=⟨nf1 - 1,by omega⟩;have Hs:goV (nmV S k) S j v (qab S j) nf (i+1) s x (B++[(x,p.mate)])=goV (nmV S k) S j v (qab S j) (n1+1) p.mate s1 x (B++[(x,p.mate)]):=by
      rcases he with rfl|rfl
      ·exact(hz rfl).2 B x rfl
      ·exact hy x rfl
     refine qp9.of_eq (ih _ _ _ _ _ _ _ _ h k v n1 s1 B Hm (hc.next ⟨p,hp,.inr (.inr (.inl ⟨k3,.inr rfl,rfl⟩))⟩) hx hB (by omega) (by omega) hr He hb) ?_ Hn;rw[hg,Hs,hm,if_neg (by simp)]
   ·refine qp9.of_eq (ih _ _ _ _ _ _ _ _ h k v nf (s.mark v i ((0:Nat):Int)) B (hs.mark _ _ _) (hc.next ⟨p,hp,.inr (.inr (.inr ⟨k6,rfl,.inl ⟨ha,rfl⟩⟩))⟩) hx hB hk (by omega) hj He hb) ?_ (Nat.le_refl _)
    have h0:qai S p.text=0:=by
     rcases qhy S p.text with⟨a,_⟩|⟨m,_,b⟩
     ·exact a
     ·rw[ha]at b;cases b
    have hn:=qf8 hx
    conv=>lhs;unfold goV
    rw[hp];simp only;rw[if_neg (by omega),if_neg (by omega),if_neg (by omega),if_neg (by omega),if_pos k6,qqx S k s _ x h0];simp only;rw[if_neg (by rw[hn,show(s.mark v i ((0:Nat):Int)).fault=s.fault from rfl,hs.ok];simp[Ft.none]),if_pos hn]
   ·have hz:qai S p.text=m+1:=by
     rcases qhy S p.text with⟨_,b⟩|⟨m',a,b⟩
     ·rw[ha]at b;cases b
     ·rw[ha]at b;rw[a,Option.some.inj b]
    have Hc:(m,x)∈RR:=hc.here ⟨p,hp,k6,ha⟩;obtain⟨b1,b2,b3,b4⟩:=behS hS hR Hl 257 0 (by omega) s p.text x m [] ha hs.inv.ends hs.ends Hc hx (fun u hu=>absurd hu List.not_mem_nil) (Nat.zero_le _);obtain⟨g1,g2⟩:=qgd S 257 0 (by omega) s p.text x hs.inv.ends (Nat.zero_le _) hx;have Ht:(behV S 257 s p.text x).1.fault.code=0:=by rw[b2,hs.ok];rfl
    have Ha:Sim S RR (behV S 257 s p.text x).1 R:=⟨(hs.inv.grew g1).1,b1,b2.trans hs.ok,fun a b=>by rw[g1.nums];exact hs.keys a b,by rw[g1.nums];exact hs.one⟩;have key:∃s2 num,nmV S k s p.text x=(s2,num,(behV S 257 s p.text x).2)/\(f1.code≠0->s2.fault=f1)/\(f1=Ft.none->Sim S RR s2 R1/\s.nums.length<=s2.nums.length):=by
     rcases h1 with⟨hv,rfl,rfl⟩|⟨hv,e1,h1⟩
     ·refine⟨(behV S 257 s p.text x).1,qg1 (behV S 257 s p.text x).1 (m+1,x),?_,fun q=>absurd rfl q,fun _=>⟨Ha,by rw[g1.nums];exact Nat.le_refl _⟩⟩
      unfold nmV;simp only;rw[hz,if_neg (by omega),if_neg (fun q=>(Ha.keys m x).2 hv ((qy4 Ha.inv m x).1 q))]
     ·have ho:qg1 (behV S 257 s p.text x).1 (m+1,x)=0:=(qy4 Ha.inv m x).2 (Decidable.not_not.1 fun q=>hv ((Ha.keys m x).1 q))
      have Hf:=qy5 hs.inv hs.one hx (by omega) Ht (by rw[hz];exact ho);rw[hz]at Hf;obtain⟨p1,p2,p3⟩:=Hf.begun;have Hj:=Ha.inv.few;have Hx:=Ha.inv.ends.few;rw[g1.nums]at Hj;obtain⟨k,rfl⟩:∃k',k=k'+1:=⟨k - 1,by omega⟩;have Hu:Sim S RR (begun S (behV S 257 s p.text x).1 (m+1,x)) (R++[(m,x)]):=by
       refine⟨p1,b1,b2.trans hs.ok,fun a b=>?_,by omega⟩;show qa1 (qa5 _ _ _) _≠_↔_;rw[qel];by_cases q:(m+1,x)=(a+1,b)
       ·rw[if_pos q]
        injection q with q1 q2;obtain rfl:m=a:=by omega
        subst q2;simp
       ·rw[if_neg q,Ha.keys a b,List.mem_append,List.mem_singleton]
        exact⟨.inl,fun z=>z.resolve_right fun z=>q (by injection z with z1 z2;rw[z1,z2])⟩
      have Hg:=ih _ _ _ _ _ _ _ _ h1 k (behV S 257 s p.text x).1.vis.length ((qab S (m+1)).length+1) (begun S (behV S 257 s p.text x).1 (m+1,x)) [] Hu (Hl (m,x) Hc) hx (fun b hb=>absurd hb List.not_mem_nil) (by rw[p3,g1.nums];omega) (by omega) (Nat.zero_le _) (Nat.le_refl _) (.inl rfl);have Hb:=qla S k (behV S 257 s p.text x).1 (m+1,x);simp only at Hb;refine⟨qfs S (k+1) (behV S 257 s p.text x).1 (m+1,x),qg1 (qfs S (k+1) (behV S 257 s p.text x).1 (m+1,x)) (m+1,x),?_,fun q=>?_,fun q=>?_⟩
      ·unfold nmV
       simp only;rw[hz,if_neg (by omega),if_pos ho]
      ·rw[Hb];exact Hg.1 q
      ·obtain⟨s1,nf1,c1,c2,c3,c4,c5⟩:=Hg.2 q
       have he:goV (nmV S k) S (m+1) (behV S 257 s p.text x).1.vis.length (qab S (m+1)) ((qab S (m+1)).length+1) 0 (begun S (behV S 257 s p.text x).1 (m+1,x)) x []=s1:=by
        cases e1 with
        |none=>exact(c5 rfl).1 rfl
        |some y=>
          rw[c4 y rfl];obtain⟨n1,rfl⟩:∃n1,nf1=n1+1:=⟨nf1 - 1,by omega⟩;unfold goV;rw[List.getElem?_eq_none (Nat.le_refl _)]
       rw[Hb,he];refine⟨c1,?_⟩;rw[p3,g1.nums]at c3;omega
    obtain⟨s2,num,Hv,hw,Ho⟩:=key
    have hg:goV (nmV S k) S j v (qab S j) (nf+1) i s x B=if s2.fault.code≠0\/((behV S 257 s p.text x).2.isNone=true/\B=[])then s2.mark v i num else if(behV S 257 s p.text x).2.isNone=false then goV (nmV S k) S j v (qab S j) nf (i+1) (s2.mark v i num) (behV S 257 s p.text x).2 B else(match B.getLast? with
      |Option.none=>s2.mark v i num
      |some b=>goV (nmV S k) S j v (qab S j) nf b.2 (s2.mark v i num) b.1 B):=by
     conv=>lhs;unfold goV
     rw[hp];simp only;rw[if_neg (by omega),if_neg (by omega),if_neg (by omega),if_neg (by omega),if_pos k6,Hv];rfl
    rcases h with⟨hf,rfl,rfl,rfl⟩|⟨hf,y,hy,h⟩|⟨hf,Hw,rfl,rfl,rfl⟩
    ·refine⟨fun _=>?_,fun z=>by rw[z]at hf;exact absurd rfl hf⟩
     have:=hw hf;rw[hg,if_pos (.inl (by rw[this];exact hf))];exact this
    ·have Hk:f1=Ft.none:=by
      rcases h1 with⟨_,_,q⟩|⟨_,e1,h1⟩
      ·exact q
      ·exact(qhu S _ _ _ _ _ _ _ _ _ h1).resolve_right fun z=>z hf
     obtain⟨d1,d2⟩:=Ho Hk;have hn:(behV S 257 s p.text x).2.isNone=false:=Bool.eq_false_iff.2 fun q=>b3 q y hy;have hl:(behV S 257 s p.text x).2=y:=qk7 (qn1 (b4 hn)) (qn1 hy);rw[hl]at hg hn;have Hi:=qkv g2 (by rw[hl];simp[hn]);rw[hl]at Hi;refine qp9.of_eq (ih _ _ _ _ _ _ _ _ h k v nf (s2.mark v i num) B (d1.mark _ _ _) (hc.next ⟨p,hp,.inr (.inr (.inr ⟨k6,rfl,.inr ⟨m,ha,hy⟩⟩))⟩) Hi hB (by show 258<=s2.nums.length+k;omega) (by omega) hj He hb) ?_ d2;rw[hg,if_neg (by rw[hn,d1.ok];simp[Ft.none]),if_pos hn]
    ·have Hk:f1=Ft.none:=by
      rcases h1 with⟨_,_,q⟩|⟨_,e1,h1⟩
      ·exact q
      ·exact(qhu S _ _ _ _ _ _ _ _ _ h1).resolve_right fun z=>z hf
     obtain⟨d1,d2⟩:=Ho Hk;have hn:(behV S 257 s p.text x).2.isNone=true:=by
      cases q:(behV S 257 s p.text x).2.isNone with
      |true=>rfl
      |false=>exact absurd (b4 q) (Hw _)
     refine⟨fun q=>absurd rfl q,fun _=>⟨s2.mark v i num,nf,d1.mark _ _ _,by omega,d2,(fun y q=>by cases q),fun _=>⟨fun q=>?_,fun B0 b q=>?_⟩⟩⟩
     ·rw[hg,if_pos (.inr ⟨hn,q⟩)]
     ·rw[hg,if_neg (by rw[d1.ok,q];simp[Ft.none]),if_neg (by rw[hn];simp),q,List.getLast?_concat]
variable{S:List Src}
theorem q8f{j:Nat}(hw:Wf 0 (qab S j))(x0:Sx):∀(n i:Nat) (x:Sx) (R R':List Vt) (f:Ft) (e:Option Sx),ThD S n j i (qab S j).length x R R' f e->f=Ft.none->∀pre:List It,its (nmOf S) (qab S j)=pre++qdq (nmOf S) (qab S j) i->Via (bdOf S) pre x0 x ->
  (∀y,e=some y->Via (bdOf S) (its (nmOf S) (qab S j)) x0 y)/\(e=Option.none->∀y,¬Via (bdOf S) (its (nmOf S) (qab S j)) x0 y):=by
 intro n
 induction n with
 |zero=>intro i x R R' f e h;exact h.elim
 |succ n ih=>
   intro i x R R' f e h hf pre hi hv;rcases h with⟨h0,rfl,rfl,rfl⟩|⟨p,Hb,hp,h⟩
   ·rw[qik h0,List.append_nil]at hi
    rw[hi];exact⟨fun y q=>by rw[<-Option.some.inj q];exact hv,fun q=>by cases q⟩
   rcases h with⟨_,t,_,_,q,_⟩|⟨k1,ht,h⟩|⟨_,_,_,q,_⟩|⟨k2,ht,h⟩|⟨k3,R1,f1,e1,h1,h⟩|⟨k6,ha,h⟩|⟨k6,m,ha,R1,f1,h1,h⟩
   ·rw[q]at hf;cases hf
   ·exact ih _ _ _ _ _ _ h hf (pre++[.tx p.text]) (by rw[hi,qi9 hp k1,List.append_assoc];rfl) (qfb hv (q2i _ _ _))
   ·rw[q]at hf;injection hf with q _;cases q
   ·exact ih _ _ _ _ _ _ h hf (pre++[.ho]) (by rw[hi,qja hp k2,List.append_assoc];rfl) (qfb hv (q2j _ _))
   ·rcases h with⟨q,_,z,_⟩|⟨_,_,_,z,_⟩|⟨_,_,_,h⟩
    ·rw[<-z,hf]at q;exact absurd rfl q
    ·rw[z]at hf;cases hf
    ·obtain⟨_,_,_,_,q,_⟩:=q2c hw i p hp k3
     exact ih _ _ _ _ _ _ h hf pre (by rw[hi,qks hp k3 (by omega)]) hv
   ·exact ih _ _ _ _ _ _ h hf pre (by rw[hi,qjx hp (.inr ⟨k6,ha⟩)]) hv
   ·have Ha:=hi.trans (congrArg (pre++·) (qgr hp k6 ha))
    rcases h with⟨q,_,z,_⟩|⟨_,y,hy,h⟩|⟨_,hb,_,_,rfl⟩
    ·rw[<-z,hf]at q;exact absurd rfl q
    ·exact ih _ _ _ _ _ _ h hf (pre++[.ca m]) (by rw[hi,qgr hp k6 ha,List.append_assoc];rfl) (qfb hv (qto hy))
    ·exact⟨(fun y q=>by cases q),fun _=>by rw[Ha];exact qyo hv hb⟩
theorem q82{RR:List Vt}(hS:∀i,Wf 0 (qab S i))(hl:0<S.length)(hR:RR.length<=256)(He:∀v∈RR,ClS S RR (v.1+1) 0 v.2)(h0:ClS S RR 0 0 Sx.start){n:Nat}{R:List Vt}{f:Ft}{e:Option Sx}(h:ThD S n 0 0 (qab S 0).length Sx.start [] R f e)(len:Nat) :
  (f.code≠0->(qef S len).2=f)/\(f.code=0->(∀y,e=some y->y≠Sx.start->(qef S len).2=⟨3,15,qen S 0,len⟩)/\((e=Option.none\/e=some Sx.start)->(qef S len).2=Ft.none)):=by
 have ha:SxFit Sx.start:=qiz;have Hb:Pre S ⟨[],[],[],Ft.none⟩ (0,Sx.start):=⟨⟨qq8 _,by simp,fun i j p q hp=>(by simp at hp),by simp,by simp,rfl⟩,rfl,.inl ⟨rfl,rfl⟩,ha,hl⟩;obtain⟨p1,p2,p3⟩:=Hb.begun;have hg:Sim S RR (begun S ⟨[],[],[],Ft.none⟩ (0,Sx.start)) []:=by
  refine⟨p1,⟨by simp[begun],by simp[begun],by simp[begun]⟩,rfl,fun a b=>?_,by rw[p3];simp⟩;show qa1 (qa5 [] _ _) _≠_↔_;rw[qel,if_neg (by simp)];simp[qa1]
 have Ha:=zak hS hR He _ _ _ _ _ _ _ _ _ h 257 0 ((qab S 0).length+1) _ [] hg h0 ha (fun b hb=>absurd hb List.not_mem_nil) (by rw[p3];simp) (by omega) (Nat.zero_le _) (Nat.le_refl _) (.inl rfl);have hc:qfs S 258 ⟨[],[],[],Ft.none⟩ (0,Sx.start)=goV (nmV S 257) S 0 0 (qab S 0) ((qab S 0).length+1) 0 (begun S ⟨[],[],[],Ft.none⟩ (0,Sx.start)) Sx.start []:=qla S 257 ⟨[],[],[],Ft.none⟩ (0,Sx.start);unfold qef;simp only;rw[hc];refine⟨fun hf=>?_,fun hf=>?_⟩
 ·rw[Ha.1 hf,if_pos hf]
 ·have Hf:=(qhu S _ _ _ _ _ _ _ _ _ h).resolve_right fun z=>z hf
  obtain⟨s1,nf1,c1,c2,c3,c4,c5⟩:=Ha.2 Hf;have he:goV (nmV S 257) S 0 0 (qab S 0) ((qab S 0).length+1) 0 (begun S ⟨[],[],[],Ft.none⟩ (0,Sx.start)) Sx.start []=s1:=by
   cases e with
   |none=>exact(c5 rfl).1 rfl
   |some y=>
     rw[c4 y rfl];obtain⟨n1,rfl⟩:∃n1,nf1=n1+1:=⟨nf1 - 1,by omega⟩;unfold goV;rw[List.getElem?_eq_none (Nat.le_refl _)]
  rw[he];obtain⟨v1,v2⟩:=q8f (hS 0) Sx.start n 0 Sx.start [] R f e h Hf [] rfl (qrv _ _);obtain⟨_,w2,w3,w4⟩:=zac (behS hS hR He 257 0 (by omega)) (fun s t x ht=>by
    obtain⟨a,b⟩|⟨n,a,b⟩:=qhy S t
    ·unfold behV;rw[if_pos a]
    ·rw[ht]at b;cases b) (qgd S 257 0 (by omega)) (qab S 0) Sx.start [] (fun u hu=>absurd hu List.not_mem_nil) ((qab S 0).length+1) 0 s1 Sx.start [] (by omega) (hS 0) c1.inv.ends c1.ends (Nat.zero_le _) (.inr ha) (fun q=>by rw[qf8 ha]at q;cases q) fun _=>⟨qrv _ _,rfl,h0⟩
  generalize qdh (behV S 257) (qab S 0) ((qab S 0).length+1) 0 s1 Sx.start=r at w2 w3 w4 |-;have hz:s1.fault.code=0:=by rw[c1.ok];rfl
  have Hg:r.1.fault.code=0:=by rw[w2,hz]
  rw[if_neg (by rw[hz];simp)];refine⟨fun y hy Hc=>?_,fun q=>?_⟩
  ·have hn:r.2.isNone=false:=Bool.eq_false_iff.2 fun q=>w3 q y (v1 y hy)
   rw[if_pos ⟨hn,by rw[qk7 (w4 hn) (v1 y hy)];exact Hc⟩]
  ·rw[if_neg ?_,if_neg (by rw[Hg];simp)]
   rintro⟨hn,Hc⟩;rcases q with q|q
   ·exact v2 q _ (w4 hn)
   ·exact Hc (qk7 (w4 hn) (v1 _ q))
end Go.Proofs.YtfkhljmiehdgmaaGreatDoor.Pl
namespace Go.Proofs.YtfkhljmiehdgmaaGreatDoor
open Go.Lib
def qcj(x:Nat):Bool:=decide (x=9\/x=10\/x=12\/x=13\/x=32)
theorem qps(b:UInt8):Pl.among b Pl.qah=qcj b.toNat:=by
 have h:∀i:Fin 256,Pl.among (UInt8.ofNat i.val) Pl.qah=qcj i.val:=by decide +kernel
 have:=h ⟨b.toNat,b.toNat_lt⟩;simpa using this
theorem qf6(x:Nat)(h:128<=x):qcj x=false:=by
 unfold qcj;rw[decide_eq_false_iff_not];omega
theorem q0p(n b0 b1 b2 b3:Nat)(h:qcj (decodeN n b0 b1 b2 b3).1=true):(decodeN n b0 b1 b2 b3).2=1/\(decodeN n b0 b1 b2 b3).1=b0:=by
 have h2:(decodeN n b0 b1 b2 b3).1<128:=by
  rcases Nat.lt_or_ge (decodeN n b0 b1 b2 b3).1 128 with h3|h3
  ·exact h3
  ·rw[qf6 _ h3]at h;cases h
 rcases decodeN_cases n b0 b1 b2 b3 with⟨c,e⟩|⟨c1,c2,c3,cv,e⟩|⟨c1,c2,c3,c4,cv,e⟩|⟨c,e⟩|e
 ·rw[e];exact⟨rfl,rfl⟩
 ·rw[e]at h2;dsimp only at h2;omega
 ·rw[e]at h2;dsimp only at h2;omega
 ·omega
 ·rw[e]at h2;dsimp only at h2;omega
theorem q0o(l:List UInt8)(ha:l≠[])(hs:qcj (decodeL l).1=false):(decodeL l).2<=l.length/\∀j,j<(decodeL l).2->qcj (l.getD j 0).toNat=false:=by
 have hl:0<l.length:=List.length_pos_iff.2 ha;have hc:=decodeN_conts l.length (l.getD 0 0).toNat (l.getD 1 0).toNat (l.getD 2 0).toNat (l.getD 3 0).toNat;rw[Go.Lib.decodeL_N]at hs |-;obtain⟨c2,c3,c4,c5⟩:=hc;refine⟨by omega,fun j hj=>?_⟩;have Ha:j<4:=by omega
 rcases(show j=0\/j=1\/j=2\/j=3 by omega)with rfl|rfl|rfl|rfl
 ·by_cases h0:(l.getD 0 0).toNat<128
  ·have e:decodeN l.length (l.getD 0 0).toNat (l.getD 1 0).toNat (l.getD 2 0).toNat (l.getD 3 0).toNat=((l.getD 0 0).toNat,1):=by
    unfold decodeN;rw[if_pos h0]
   rw[e]at hs;exact hs
  ·exact qf6 _ (by omega)
 ·exact qf6 _ (by have:=(c2 (by omega)).1;omega)
 ·exact qf6 _ (by have:=(c3 (by omega)).1;omega)
 ·exact qf6 _ (by have:=(c4 (by omega)).1;omega)
theorem qqa:∀(k:Nat) (cur l:List UInt8),k<=l.length->(∀j,j<k->qcj (l.getD j 0).toNat=false)->Pl.qbn cur l=Pl.qbn (cur++l.take k) (l.drop k)
 |0,cur,l,_,_=>by simp
 |k+1,cur,[],h,_=>by simp at h
 |k+1,cur,b::t,h,hz=>by
   have h0:=hz 0 (by omega);rw[List.getD_cons_zero]at h0;have h1:Pl.qbn cur (b::t)=Pl.qbn (cur++[b]) t:=by
    rw[Pl.qbn,qps,h0];rfl
   rw[h1,qqa k (cur++[b]) t (by simp at h;omega) (fun j hj=>by have:=hz (j+1) (by omega);simpa using this)];simp
theorem qv9(s:ByteArray):∀(f pos:Nat) (st:Option Nat) (acc:List (Nat×Nat)),s.size<=pos+f->pos<=s.size->(∀a,st=some a->a<pos) ->
  acc.map (fun p=>pieceU s.data.toList p.1 p.2)++Pl.qbn (openPiece s.data.toList st pos) (s.data.toList.drop pos)=(closeSpans s (spansFromP qcj s f pos st acc)).map (fun p=>pieceU s.data.toList p.1 p.2):=by
 have Hb:∀(f:Nat) (st:Option Nat) (acc:List (Nat×Nat)),(∀a,st=some a->a<s.size) ->
   acc.map (fun p=>pieceU s.data.toList p.1 p.2)++Pl.qbn (openPiece s.data.toList st s.size) (s.data.toList.drop s.size)=(closeSpans s (spansFromP qcj s f s.size st acc)).map (fun p=>pieceU s.data.toList p.1 p.2):=by
  intro f st acc ha;have hd:s.data.toList.drop s.size=[]:=List.drop_eq_nil_of_le (by rw[<-size_eq];exact Nat.le_refl _);rw[hd,spansFromP_end _ s _ _ _ _ (Nat.lt_irrefl _)];cases st with
  |none=>simp[closeSpans,openPiece,Pl.qbn]
  |some a=>
    have:=pieceU_ne s.data.toList a s.size (ha a rfl) (by rw[<-size_eq];exact Nat.le_refl _);simp[closeSpans,openPiece,Pl.qbn,this]
 intro f
 induction f with
 |zero=>
   intro pos st acc h hp ha;obtain rfl:pos=s.size:=by omega
   exact Hb 0 st acc ha
 |succ f IH=>
   intro pos st acc h hp ha;by_cases Hg:pos<s.size
   rotate_left
   ·obtain rfl:pos=s.size:=by omega
    exact Hb (f+1) st acc ha
   ·have He:s.data.toList.drop pos≠[]:=by
     intro h0;have:=congrArg List.length h0;rw[List.length_drop,<-size_eq]at this;simp at this;omega
    have hw:=width_pos s pos;have hf:pos+(Utf8.decode s pos).2<=s.size:=by
     have:=decodeN_le_n' (s.size - pos) (s.get! pos).toNat (s.get! (pos+1)).toNat (s.get! (pos+2)).toNat (s.get! (pos+3)).toNat (by omega);rw[<-decode_at]at this;omega
    simp only[spansFromP,if_pos Hg];cases Ha:qcj (Utf8.decode s pos).1 with
    |true=>
      simp only[if_true];have hc:=q0p _ _ _ _ _ (by rw[decode_N]at Ha;exact Ha);rw[<-decode_N]at hc;obtain⟨o1,o2⟩:=hc;obtain⟨b,t,Hc⟩:∃b t,s.data.toList.drop pos=b::t:=by
       cases e:s.data.toList.drop pos with
       |nil=>exact absurd e He
       |cons b t=>exact⟨b,t,rfl⟩
      have hb:qcj b.toNat=true:=by
       rw[o2]at Ha;have:s.data.toList.getD pos 0=b:=by
        have:=congrArg (fun l=>l.getD 0 0) Hc;simpa [getD_dropU]using this
       rw[this]at Ha;exact Ha
      have ht:s.data.toList.drop (pos+1)=t:=by
       have:=congrArg (List.drop 1) Hc;simpa [List.drop_drop]using this
      have Hf:∀cur,Pl.qbn cur (b::t)=if cur=[]then Pl.qbn [] t else cur::Pl.qbn [] t:=fun cur=>by
       rw[Pl.qbn,qps,hb];rfl
      rw[o1];cases st with
      |none=>
        have ih:=IH (pos+1) none acc (by omega) (by omega) (fun a h=>by cases h);rw[Hc,Hf];rw[ht]at ih;simpa [openPiece]using ih
      |some a=>
        have hi:=pieceU_ne s.data.toList a pos (ha a rfl) (by rw[<-size_eq];omega);have ih:=IH (pos+1) none (acc++[(a,pos)]) (by omega) (by omega) (fun a h=>by cases h);rw[Hc,Hf];rw[ht]at ih;simpa [openPiece,hi]using ih
    |false=>
      simp only[Bool.false_eq_true,if_false];have he:=q0o _ He (by rw[decodeL_drop];exact Ha);rw[decodeL_drop]at he;have hg:=fun cur=>qqa _ cur _ he.1 he.2;simp only[List.drop_drop]at hg;rw[hg];cases st with
      |none=>
        have ih:=IH (pos+(Utf8.decode s pos).2) (some pos) acc (by omega) hf (fun a h=>by cases h;omega);have e:([]:List UInt8)++(s.data.toList.drop pos).take (Utf8.decode s pos).2=pieceU s.data.toList pos (pos+(Utf8.decode s pos).2):=by
         unfold pieceU;rw[List.nil_append,Nat.add_sub_cancel_left]
        simp only[openPiece]at ih |-;rw[e];exact ih
      |some a=>
        have ih:=IH (pos+(Utf8.decode s pos).2) (some a) acc (by omega) hf (fun b h=>by cases h;have:=ha a rfl;omega);simp only[openPiece]at ih |-;rw[pieceU_grow _ _ _ _ (Nat.le_of_lt (ha a rfl))];exact ih
theorem qu5(s:ByteArray):(goFieldsP qcj s).map (·.data.toList)=Pl.qfq s.data.toList:=by
 have h:=qv9 s s.size 0 none [] (by omega) (Nat.zero_le _) (fun a h=>by cases h);simp only[List.map_nil,List.nil_append,openPiece,List.drop_zero]at h;unfold Pl.qfq goFieldsP spansOfP;rw[h,List.map_map]
 congr 1
 funext p;simp[pieceU]
end Go.Proofs.YtfkhljmiehdgmaaGreatDoor
namespace Go.Proofs.YtfkhljmiehdgmaaGreatDoor
open Go.RowKit
def rdBl:ByteArray:=⟨#[9,10,12,13,32]⟩
theorem q3j:∀pos,pos<5->Utf8.decode rdBl pos=((rdBl.data.toList.getD pos 0).toNat,1)/\(rdBl.data.toList.getD pos 0).toNat<128:=by
 intro pos h;rcases(show pos=0\/pos=1\/pos=2\/pos=3\/pos=4 by omega)with rfl|rfl|rfl|rfl|rfl<;>decide +kernel
theorem qpb(w:World):Calls Tryz.prog 244 #[.string ⟨#[9,10,12,13,32]⟩,.int .i32 65533] w fun e w'=>e=.returned (.int .i64 (-1))/\Below w.heap.size w w':=by
 obtain⟨D,hD⟩:∃D:ByteArray,D=rdBl:=⟨_,rfl⟩;have Hb:(⟨#[9,10,12,13,32]⟩:ByteArray)=D:=by rw[hD];rfl
 rw[Hb];have he:D.size=5:=by rw[hD];rfl
 have Ha:∀pos,pos<5->∃r:Nat,Utf8.decode D pos=(r,1)/\r<128:=fun pos h=>by
  rw[hD];obtain⟨h1,h2⟩:=q3j pos h;exact⟨_,h1,h2⟩
 clear hD Hb;go_enter Tryz.func244,Tryz.ntmps244
 go_wp2_with fail
 go_loopw [] (fun wr=>∃pos:Nat,wr.heap[w.heap.size]?=some (.stringIter D pos)/\Below w.heap.size w wr/\pos<=5) (fun wr=>5 - wr.iterPos w.heap.size)
 case atStart=>exact⟨0,World.iter_heap w D 0,ba _,by omega⟩
 case round=>
  obtain⟨pos,hit,hc,He⟩:=hrel;by_cases hp:pos<D.size
  ·obtain⟨r,h1,h2⟩:=Ha pos (by omega)
   have Hc:=fun ty=>Lib.run_next_any_at (P:=Tryz.prog) wr w.heap.size D pos ty hit hp;rw[h1]at Hc;have ha:=Lib.iterAt_heap wr w.heap.size D pos (pos+1) hit;have hb:=Lib.below_iterAt hc (k:=w.heap.size) (by omega) D (pos+1);have hr:((r:Int)==65533)=false:=by rw[beq_eq_false_iff_ne];omega
   clear h1;go_wp2_with fail
   go_roundw
   case rel=>exact⟨pos+1,ha,hb,by omega⟩
   case measure=>simp only[World.iterPos,ha,hit];omega
  ·have Hc:=fun ty=>Lib.run_next_end_at (P:=Tryz.prog) wr w.heap.size D pos ty hit hp
   go_wp2_with fail
   go_ret
   exact⟨rfl,hc⟩
theorem qvd(r:Int)(h1:128<=r)(hv:Utf8.valid r=true):∃n:Nat,(Utf8.encode r).size=n+1/\1<=n/\n<=3/\∀h:n<(Utf8.encode r).size,128<=((Utf8.encode r)[n]'h).toNat:=by
 have Ha:¬r.toNat<0x80:=by omega
 have ha:∀c:Nat,128<=(UInt8.ofNat (0x80+c % 64)).toNat:=fun c=>by
  rw[UInt8.toNat_ofNat'];omega
 by_cases h2:r.toNat<0x800
 ·have e:Utf8.encode r=⟨#[UInt8.ofNat (0xC0+r.toNat / 64),UInt8.ofNat (0x80+r.toNat % 64)]⟩:=by
   unfold Utf8.encode;simp only[hv,if_true];rw[if_neg Ha,if_pos h2]
  generalize Utf8.encode r=E at e |-;subst e;exact⟨1,rfl,by omega,by omega,fun _=>ha _⟩
 ·by_cases h3:r.toNat<0x10000
  ·have e:Utf8.encode r=⟨#[UInt8.ofNat (0xE0+r.toNat / 4096),UInt8.ofNat (0x80+r.toNat / 64 % 64),UInt8.ofNat (0x80+r.toNat % 64)]⟩:=by
    unfold Utf8.encode;simp only[hv,if_true];rw[if_neg Ha,if_neg h2,if_pos h3]
   generalize Utf8.encode r=E at e |-;subst e;exact⟨2,rfl,by omega,by omega,fun _=>ha _⟩
  ·have e:Utf8.encode r=⟨#[UInt8.ofNat (0xF0+r.toNat / 262144),UInt8.ofNat (0x80+r.toNat / 4096 % 64),UInt8.ofNat (0x80+r.toNat / 64 % 64),UInt8.ofNat (0x80+r.toNat % 64)]⟩:=by
    unfold Utf8.encode;simp only[hv,if_true];rw[if_neg Ha,if_neg h2,if_neg h3]
   generalize Utf8.encode r=E at e |-;subst e;exact⟨3,rfl,by omega,by omega,fun _=>ha _⟩
theorem qn8(r:Int):Lib.validRune r=Utf8.valid r:=by
 unfold Lib.validRune Utf8.valid;rw[Bool.eq_iff_iff];simp only[decide_eq_true_eq,Bool.or_eq_true,Bool.and_eq_true];omega
theorem q42(r:Int)(w:World):(convert 21 9 (.int .i32 r)).run Tryz.prog w=.ok (.string (Utf8.encode r)) w:=by
 unfold convert;simp[run_underlying Tryz.underlying21,run_underlying Tryz.underlying9,Conv.intToString,Result.andThen]
theorem q1k(k:Nat)(c:UInt8)(hc:128<=c.toNat):Lib.indexByte (rdBl.extract k 5).data.toList c=-1:=by
 rcases Pl.qgn (rdBl.extract k 5).data.toList c with⟨_,a⟩|⟨a,_⟩
 ·exfalso
  have hm:c∈(rdBl.extract k 5).data.toList:=List.contains_iff_mem.1 (by unfold Pl.among at a;simpa using a);rw[ByteArray.data_extract,Array.toList_extract,List.extract_eq_take_drop]at hm;have ha:c∈rdBl.data.toList:=List.mem_of_mem_drop (List.mem_of_mem_take hm);have:∀b∈rdBl.data.toList,b.toNat<128:=by decide
  have:=this c ha;omega
 ·exact a
theorem qp5(r:Int)(w:World)(h1:128<=r)(h2:r<=1114111)(h3:r≠65533):Calls Tryz.prog 244 #[.string ⟨#[9,10,12,13,32]⟩,.int .i32 r] w fun e w'=>e=.returned (.int .i64 (-1))/\Below w.heap.size w w':=by
 obtain⟨D,hD⟩:∃D:ByteArray,D=rdBl:=⟨_,rfl⟩;have Hb:(⟨#[9,10,12,13,32]⟩:ByteArray)=D:=by rw[hD];rfl
 rw[Hb];have Hg:(D.size:Int)=5:=by rw[hD];rfl
 have hv:=fun w=>Tryz.utf8_ValidRune r w;have c1:¬r<128:=by omega
 have c2:(r==65533)=false:=by rw[beq_eq_false_iff_ne];exact h3
 have c3:(0:Int)<=r:=by omega
 rw[qn8]at hv;by_cases ha:Utf8.valid r=true
 rotate_left
 ·rw[Bool.eq_false_iff.2 ha]at hv
  have HV:=hd hv;clear hv ha;go_enter Tryz.func244,Tryz.ntmps244
  go_wp2_with (go_at_call 253;refine(HV.out _).mono ?_;rintro e w' ⟨rfl,rfl⟩)
  go_ret
  exact⟨rfl,Below.refl _ _⟩
 ·rw[ha]at hv
  obtain⟨n,e1,e2,e3,e4⟩:=qvd r h1 ha;have hc:=q42 r;generalize Utf8.encode r=E at e1 e4 hc;have e5:n<E.size:=by omega
  have he:=e4 e5;have HV:=hd hv;have hE:(E.size:Int) - 1=(n:Int):=by omega
  have hi:(n:Int)<(E.size:Int):=by omega
  have Hc:n<D.size:=by omega
  have He:D[n].toNat<128:=by
   have h0:∀b∈rdBl.data.toList,b.toNat<128:=by decide
   refine h0 _ ?_;subst hD;exact List.mem_of_getElem? (i:=n) (by rw[List.getElem?_eq_getElem (by simpa using Hc)];rfl)
  have Hi:((D[n].toNat:Int) != (E[n].toNat:Int))=true:=by rw[bne_iff_ne];omega
  have hb:=fun w=>(Tryz.strings_IndexByte (D.extract (n+1) D.size) (E[n].toNat:Int) w).mono (fun _ w' h=>(⟨h.1,h.2.symm⟩:_/\w=w'));have Ha:Lib.indexByte (D.extract (n+1) D.size).data.toList (E[n].toNat:Int).toNat.toUInt8=-1:=by
   subst hD;rw[show rdBl.size=5 from rfl,Int.toNat_natCast];refine q1k _ _ ?_;rw[show(E[n].toNat.toUInt8)=E[n]from by simp];exact he
  rw[Ha]at hb;have hf:=hd hb;have hj:(n:Int)<=3:=by omega
  have Hj:(1:Int)<=(n:Int):=by omega
  have Hf:(n:Int)<5:=by omega
  clear hb Ha He hD Hb;clear hv ha e4 e1 e2 e3 he h1 h2 h3;go_enter Tryz.func244,Tryz.ntmps244
  go_wp2_with (go_at_call 253;refine(HV.out _).mono ?_;rintro e w' ⟨rfl,rfl⟩)
  refine wp_scope_straight ?_;go_wp2_with fail
  have hg:(n:Int)<(D.size:Int):=by omega
  have hk:(0:Int)<=(n:Int)+1:=by omega
  have Hk:(n:Int)+1<=(D.size:Int):=by omega
  have hl:(n:Int)+1<=5:=by omega
  have Hl:((n:Int)+1).toNat=n+1:=by omega
  have hm:IntKind.i64.wrap ((n:Int)+1)=(n:Int)+1:=by rw[IntKind.wrap_i64];omega
  go_loopw [9] (fun i wr=>i=.int .i64 n/\wr=w') (fun _ _=>0)
  case atStart=>exact⟨rfl,rfl⟩
  case round=>
   obtain⟨rfl,rfl⟩:=hrel;go_wp2_with fail
   refine wp_scope_straight ?_;go_wp2_with fail
   go_quiet (fail)
   go_wp2_with fail
   go_region_with (go_at_call 130;refine(hf.out _).mono ?_;rintro e w'' ⟨rfl,rfl⟩)
   go_wp2_with fail
   show Exit.noGoto _ _ _ _;simp only[Exit.noGoto];go_wp2_with fail
   simp only[Exit.noGoto];go_wp2_with fail
   go_ret
   exact⟨rfl,qay (Below.refl _ _) _⟩
theorem qml(r:Int)(w:World)(h1:128<=r)(h2:r<=1114111):Calls Tryz.prog 233 #[.string ⟨#[9,10,12,13,32]⟩,.int .i32 r] w fun e w'=>e=.returned (.bool false)/\Below w.heap.size w w':=by
 have hi:∀w,Calls Tryz.prog 244 #[.string ⟨#[9,10,12,13,32]⟩,.int .i32 r] w fun e w'=>e=.returned (.int .i64 (-1))/\Below w.heap.size w w':=fun w=>by
  by_cases h3:r=65533
  ·subst h3;exact qpb w
  ·exact qp5 r w h1 h2 h3
 have HI:=hd hi;clear hi h1 h2;go_enter Tryz.func233,Tryz.ntmps233
 go_wp2_with (go_at_call 244;refine(HI.out _).mono ?_;rintro e w' ⟨rfl,hb⟩)
 go_ret
 exact⟨rfl,hb⟩
theorem qsc(x:Nat)(h:x<128):decide (0<=Lib.indexByte rdBl.data.toList ((x:Int).toNat.toUInt8))=qcj x:=by
 have ha:∀x∈List.range 128,decide (0<=Lib.indexByte rdBl.data.toList ((x:Int).toNat.toUInt8))=qcj x:=by decide +kernel
 exact ha x (List.mem_range.2 h)
theorem qxn(x:Nat)(w:World)(h:x<=1114111):Calls Tryz.prog 228 #[.int .i32 x] w fun e w'=>e=.returned (.bool (qcj x))/\Below w.heap.size w w':=by
 have hi:∀w,Calls Tryz.prog 233 #[.string ⟨#[9,10,12,13,32]⟩,.int .i32 x] w fun e w'=>e=.returned (.bool (qcj x))/\Below w.heap.size w w':=fun w=>by
  by_cases hx:x<128
  ·rw[<-qsc x hx]
   refine(Tryz.strings_ContainsRune_ascii rdBl x w (by omega) (by omega)).mono ?_;rintro e w' ⟨rfl,rfl⟩;exact⟨rfl,Below.refl _ _⟩
  ·have e:qcj x=false:=by unfold qcj;rw[decide_eq_false_iff_not];omega
   rw[e];exact qml x w (by omega) (by omega)
 have HI:=hd hi;clear hi h;go_enter Tryz.func228,Tryz.ntmps228
 go_wp2_with (go_at_call 233;refine(HI.out _).mono ?_;rintro e w' ⟨rfl,hb⟩)
 go_ret
 exact⟨rfl,hb⟩
section
variable {w0 w w':World}{g:Nat}{s s':Pl.Sx}
structure Sx2(w0 w:World)(s:Pl.Sx):Prop where
 sp:w.heap[w0.heap.size]?=some (.cells (qaf s) 162 (0,0))
 res:w.heap[w0.heap.size+1]?=some (.cells (qaf ⟨⟨0,[],[],0,0,false⟩,⟨false,0,0,0⟩⟩) 162 (0,0))
 low:Below w0.heap.size w0 w
 tabs:PTabs w
theorem Sx2.lt(h:Sx2 w0 w s):w0.heap.size+1<w.heap.size:=(lta h.res)
theorem Sx2.kept(h:Sx2 w0 w s)(hb:Below w.heap.size w w'):Sx2 w0 w' s:=by
 have:=h.lt;exact⟨(hb.block _ (by omega)).trans h.sp,(hb.block _ (by omega)).trans h.res,h.low.trans (hb.mono (by omega)),h.tabs.kept hb⟩
theorem Sx2.alloc(h:Sx2 w0 w s)(o:Obj):Sx2 w0 (w.alloc o) s:=h.kept ((Below.refl _ w).alloc (Nat.le_refl _) o)
theorem Sx2.drew(h:Sx2 w0 w s):Sx2 w0 w.drew s:=h.kept (Below.refl _ w).drew
theorem Sx2.put(h:Sx2 w0 w s)(ht:PTabs w0)(j:Nat)(v:Value)(e:(qaf s).set! j v=qaf s'):Sx2 w0 (w.setCell ⟨w0.heap.size,j,none⟩ v) s':=by
 refine⟨?_,(heap_setCell_other _ _ _ _ (by show w0.heap.size+1≠w0.heap.size;omega)).trans h.res,h.low.setCell (Nat.le_refl _) _,ht.kept (h.low.setCell (Nat.le_refl _) _)⟩;rw[<-e];exact heap_setCell_same w _ j _ _ _ h.sp
theorem Sx2.marks(h:Sx2 w0 w s)(ht:PTabs w0)(e:Bool)(k:Pl.Mk):Sx2 w0 (setM w w0.heap.size (.bool k.ref) (.bool e) (.int .i64 k.hex) (.int .i64 k.pct) (.int .i64 k.far)) ⟨⟨s.st.mode,s.st.name,s.st.elem,s.st.kind,s.st.read,e⟩,k⟩:=by
 have h1:=h.put (s':=⟨s.st,⟨k.ref,s.ma.hex,s.ma.pct,s.ma.far⟩⟩) ht 5 (.bool k.ref) rfl;have h2:=h1.put (s':=⟨⟨s.st.mode,s.st.name,s.st.elem,s.st.kind,s.st.read,e⟩,⟨k.ref,s.ma.hex,s.ma.pct,s.ma.far⟩⟩) ht 6 (.bool e) rfl;have h3:=h2.put (s':=⟨⟨s.st.mode,s.st.name,s.st.elem,s.st.kind,s.st.read,e⟩,⟨k.ref,k.hex,s.ma.pct,s.ma.far⟩⟩) ht 7 (.int .i64 k.hex) rfl;have h4:=h3.put (s':=⟨⟨s.st.mode,s.st.name,s.st.elem,s.st.kind,s.st.read,e⟩,⟨k.ref,k.hex,k.pct,s.ma.far⟩⟩) ht 8 (.int .i64 k.pct) rfl;exact h4.put (s':=⟨⟨s.st.mode,s.st.name,s.st.elem,s.st.kind,s.st.read,e⟩,k⟩) ht 9 (.int .i64 k.far) rfl
theorem Sx2.all(h:Sx2 w0 w s)(ht:PTabs w0)(y:Pl.Sx):Sx2 w0 (qcs w w0.heap.size (.int .u8 (y.st.mode:Int)) (.string ⟨y.st.name.toArray⟩) (.string ⟨y.st.elem.toArray⟩) (.int .i64 y.st.kind) (.int .i64 (y.st.read:Int)) (.bool y.ma.ref) (.bool y.st.esc) (.int .i64 y.ma.hex) (.int .i64 y.ma.pct) (.int .i64 y.ma.far)) y:=by
 have h1:=h.put (s':=⟨⟨y.st.mode,s.st.name,s.st.elem,s.st.kind,s.st.read,s.st.esc⟩,s.ma⟩) ht 0 (.int .u8 (y.st.mode:Int)) rfl;have h2:=h1.put (s':=⟨⟨y.st.mode,y.st.name,s.st.elem,s.st.kind,s.st.read,s.st.esc⟩,s.ma⟩) ht 1 (bs y.st.name) rfl;have h3:=h2.put (s':=⟨⟨y.st.mode,y.st.name,y.st.elem,s.st.kind,s.st.read,s.st.esc⟩,s.ma⟩) ht 2 (bs y.st.elem) rfl;have h4:=h3.put (s':=⟨⟨y.st.mode,y.st.name,y.st.elem,y.st.kind,s.st.read,s.st.esc⟩,s.ma⟩) ht 3 (.int .i64 y.st.kind) rfl;have h5:=h4.put (s':=⟨⟨y.st.mode,y.st.name,y.st.elem,y.st.kind,y.st.read,s.st.esc⟩,s.ma⟩) ht 4 (.int .i64 (y.st.read:Int)) rfl;exact h5.marks ht y.st.esc y.ma
theorem Sx2.start(ht:PTabs w0)(s:Pl.Sx):Sx2 w0 ((w0.alloc (.cells (qaf s) 162)).alloc (.cells (qaf ⟨⟨0,[],[],0,0,false⟩,⟨false,0,0,0⟩⟩) 162)) s:=
 ⟨(heap_alloc_old _ _ (by simp)).trans (heap_alloc_new w0 _),qal _ _ _ (by simp),(ba _).alloc (by simp) _,ht.kept ((ba _).alloc (by simp) _)⟩
end
end Go.Proofs.YtfkhljmiehdgmaaGreatDoor
