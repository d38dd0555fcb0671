/-
  Steps of the proof.
-/
import Derived.Outline
import Derived.Deep.DeepCutAuto
import Derived.Deep.CutBlock
import Derived.Test.YtfkhljmiehdgmaaGreatDoorCmAG
set_option maxRecDepth 100000
set_option maxHeartbeats 40000000
namespace Go.Proofs.YtfkhljmiehdgmaaGreatDoor.Pl
variable{x y z:Sx}{m n:Nat}{p q:List UInt8×Bool}
def ext(n w:List UInt8):List UInt8:=w.foldl qc4 n
theorem qmf(n u w:List UInt8):ext n (u++w)=ext (ext n u) w:=by simp[ext]
def Sx.app(x:Sx)(w:List UInt8):Sx:=⟨{ x.st with name:=ext x.st.name w },x.ma⟩
theorem qhr(x:Sx)(u w:List UInt8):(x.app u).app w=x.app (u++w):=by
 unfold Sx.app;simp only[qmf]
structure Nam(x:Sx):Prop where
 mode:x.st.mode=3\/x.st.mode=5
 kind:x.st.kind=0
 ma:x.ma=Mk.none
theorem Nam.app(h:Nam x)(w:List UInt8):Nam (x.app w):=⟨h.mode,h.kind,h.ma⟩
structure Kin(x y:Sx):Prop where
 nam:Nam x
 eq:y=⟨{ x.st with name:=y.st.name },x.ma⟩
 len:x.st.name.length=y.st.name.length
 el:∀w,qax (ext x.st.name w)=qax (ext y.st.name w)
 ki:∀w,qcx (ext x.st.name w)=qcx (ext y.st.name w)
theorem qxi{n m:List UInt8}(b:UInt8)(h:n.length=m.length):(qc4 n b).length=(qc4 m b).length:=by
 unfold qc4;rw[h];split
 ·exact h
 ·rw[List.length_append,List.length_append,h]
theorem q63(w:List UInt8):∀ {n m:List UInt8},n.length=m.length->(ext n w).length=(ext m w).length:=by
 induction w with
 |nil=>intro n m h;exact h
 |cons b w ih=>intro n m h;exact ih (qxi b h)
theorem Kin.app(h:Kin x y)(w:List UInt8):Kin (x.app w) (y.app w):=by
 refine⟨h.nam.app w,?_,q63 w h.len,fun u=>?_,fun u=>?_⟩
 ·have:=h.eq
  unfold Sx.app;rw[this]
 ·show qax (ext (ext _ _) _)=qax (ext (ext _ _) _)
  rw[<-qmf,<-qmf];exact h.el _
 ·show qcx (ext (ext _ _) _)=qcx (ext (ext _ _) _)
  rw[<-qmf,<-qmf];exact h.ki _
theorem qo1(h:m=3\/m=5)(b:UInt8):qa3.getD m false=false/\qbw m b=m/\¬ 19<=m:=by
 rcases h with rfl|rfl<;>exact⟨rfl,by unfold qbw;rw[if_neg (fun q=>q.2 rfl)],by omega⟩
theorem qxg(h:Nam x)(b:UInt8):x.behind b=Sx.led x (qde x.st.mode b) b:=by
 obtain⟨q1,q2,q3⟩:=qo1 h.mode b;rw[qpo x b _ _ (fun q=>q3 q.1) (by rw[q1];rfl) q2 rfl];unfold St.nowRead;rw[if_neg q3]
theorem qsk(h:Nam x)(b:UInt8)(hl:qde x.st.mode b=x.st.mode):x.behind b=x.app [b]:=by
 rw[qxg h b,hl];obtain⟨⟨m,n,e,k,r,c⟩,K⟩:=x;obtain⟨hm,hk,hK⟩:=h;simp only at hm hk hK;subst hk hK;unfold Sx.led St.led qlj Sx.app;simp only[if_true];rcases hm with rfl|rfl
 ·rfl
 ·rfl
theorem q9i(h:Kin x y)(b:UInt8)(hl:qde x.st.mode b≠x.st.mode):x.behind b=y.behind b:=by
 have hy:Nam y:=by have:=h.eq;rw[this];exact⟨h.nam.mode,h.nam.kind,h.nam.ma⟩
 rw[qxg h.nam b,qxg hy b];have he:=h.el [];have hk:=h.ki [];have hq:=h.eq;generalize y.st.name=n' at he hk hq;subst hq;obtain⟨⟨m,n,e,k,r,c⟩,K⟩:=x;simp only at hl he hk |-;change qax n=qax n' at he;change qcx n=qcx n' at hk;generalize qde m b=t at hl;have hn:¬(t=m/\t≠34):=fun q=>hl q.1;unfold Sx.led qlj St.led St.named;simp only[if_neg hl,if_neg hn,he,hk]
theorem qlh(h:Nam x):x.behindHole=x:=by
 unfold Sx.behindHole;refine if_neg (fun q=>?_);have:=(qdf q.1).1;have:=h.mode;omega
def al(m:Nat):List UInt8->List UInt8×Bool
 |[]=>([],true)
 |b::t=>if qde m b=m then(b::(al m t).1,(al m t).2)else([],false)
theorem q7m(m:Nat):∀t,(al m t).2=true->(al m t).1=t
 |[],_=>rfl
 |b::t,h=>by
   unfold al at h |-;split
   ·next q=>rw[if_pos q]at h;simp only;rw[q7m m t h]
   ·next q=>rw[if_neg q]at h;cases h
theorem qrk:∀(t:List UInt8) (x:Sx),Nam x->x.st.mode=m->(al m t).2=true->qav x t=x.app t
 |[],x,_,_,_=>rfl
 |b::t,x,hx,hm,h=>by
   unfold al at h;by_cases q:qde m b=m
   ·rw[if_pos q]at h
    show qav (x.behind b) t=_;rw[qsk hx b (by rw[hm];exact q),qrk t _ (hx.app _) hm h,qhr];rfl
   ·rw[if_neg q]at h;cases h
theorem q98:∀(t:List UInt8) (x y:Sx),Kin x y->x.st.mode=m->(al m t).2=false->qav x t=qav y t
 |[],x,y,_,_,h=>by cases h
 |b::t,x,y,hx,hm,h=>by
   unfold al at h;show qav (x.behind b) t=qav (y.behind b) t;by_cases q:qde m b=m
   ·rw[if_pos q]at h
    have hy:Nam y:=by have:=hx.eq;rw[this];exact⟨hx.nam.mode,hx.nam.kind,hx.nam.ma⟩
    have ha:y.st.mode=m:=by rw[<-hm];exact congrArg (fun z=>z.st.mode) hx.eq
    rw[qsk hx.nam b (by rw[hm];exact q),qsk hy b (by rw[ha];exact q)];exact q98 t _ _ (hx.app _) hm h
   ·rw[q9i hx b (by rw[hm];exact q)]
inductive It where
 |tx (t:List UInt8)
 |ho
 |ca (n:Nat)
def go(o:Nat->Sx->Option Sx):List It->Sx->Option Sx
 |[],x=>some x
 |.tx t::l,x=>go o l (qav x t)
 |.ho::l,x=>go o l x.behindHole
 |.ca n::l,x=>match o n x with
   |some y=>go o l y
   |none=>none
def fin(B:Nat->List It):Nat->Nat->Sx->Option Sx
 |0,_,_=>none
 |h+1,n,x=>go (fin B h) (B n) x
theorem qjc{o o':Nat->Sx->Option Sx}(h:∀n x y,o n x=some y->o' n x=some y):∀(l:List It) (x y:Sx),go o l x=some y->go o' l x=some y
 |[],_,_,q=>q
 |.tx _::l,_,_,q=>qjc h l _ _ q
 |.ho::l,_,_,q=>qjc h l _ _ q
 |.ca n::l,x,y,q=>by
   unfold go at q |-;cases hz:o n x with
   |none=>rw[hz]at q;cases q
   |some z=>rw[hz]at q;rw[h n x z hz];exact qjc h l _ _ q
theorem qzp(B:Nat->List It):∀(h n:Nat) (x y:Sx),fin B h n x=some y->fin B (h+1) n x=some y
 |0,_,_,_,q=>by cases q
 |h+1,n,x,y,q=>qjc (qzp B h) (B n) x y q
theorem qn0(B:Nat->List It){h k:Nat}(hk:h<=k){n:Nat}{x y:Sx}(q:fin B h n x=some y):fin B k n x=some y:=by
 induction hk with
 |refl=>exact q
 |step _ ih=>exact qzp B _ _ _ _ ih
theorem qh2(o:Nat->Sx->Option Sx)(m:List It):∀(l:List It) (x:Sx),go o (l++m) x=(go o l x).bind (go o m)
 |[],_=>rfl
 |.tx _::l,_=>qh2 o m l _
 |.ho::l,_=>qh2 o m l _
 |.ca n::l,x=>by
   show go o (.ca n::(l++m)) x=_;unfold go;cases o n x with
   |none=>rfl
   |some z=>exact qh2 o m l z
def Via(B:Nat->List It)(l:List It)(x y:Sx):Prop:=∃h,go (fin B h) l x=some y
def Done(B:Nat->List It)(n:Nat)(x y:Sx):Prop:=∃h,fin B h n x=some y
theorem qrw{B:Nat->List It}(h:Via B (B n) x y):Done B n x y:=h.elim fun k q=>⟨k+1,q⟩
theorem qrv(B:Nat->List It)(x:Sx):Via B [] x x:=⟨0,rfl⟩
theorem qfb{B:Nat->List It}{l m:List It}(h:Via B l x y)(h':Via B m y z):Via B (l++m) x z:=by
 obtain⟨a,q⟩:=h;obtain⟨b,q'⟩:=h';refine⟨max a b,?_⟩;rw[qh2,qjc (fun n x y=>qn0 B (Nat.le_max_left a b)) _ _ _ q];exact qjc (fun n x y=>qn0 B (Nat.le_max_right a b)) _ _ _ q'
theorem q2i(B:Nat->List It)(t:List UInt8)(x:Sx):Via B [.tx t] x (qav x t):=⟨0,rfl⟩
theorem q2j(B:Nat->List It)(x:Sx):Via B [.ho] x x.behindHole:=⟨0,rfl⟩
theorem qto{B:Nat->List It}(h:Done B n x y):Via B [.ca n] x y:=h.elim fun k q=>⟨k,by unfold go;rw[q];rfl⟩
theorem qk7{B:Nat->List It}{l:List It}(h:Via B l x y)(h':Via B l x z):y=z:=by
 obtain⟨a,q⟩:=h;obtain⟨b,q'⟩:=h';have e:=qjc (fun n x y=>qn0 B (Nat.le_max_left a b)) _ _ _ q;have e':=qjc (fun n x y=>qn0 B (Nat.le_max_right a b)) _ _ _ q';exact Option.some.inj (e.symm.trans e')
def cat(p q:List UInt8×Bool):List UInt8×Bool:=if p.2=true then(p.1++q.1,q.2)else p
def wgo(oW:Nat->List UInt8×Bool)(m:Nat):List It->List UInt8×Bool
 |[]=>([],true)
 |.tx t::l=>cat (al m t) (wgo oW m l)
 |.ho::l=>wgo oW m l
 |.ca n::l=>cat (oW n) (wgo oW m l)
def wd(B:Nat->List It)(m:Nat):Nat->Nat->List UInt8×Bool
 |0,_=>([],false)
 |h+1,n=>wgo (wd B m h) m (B n)
def Le(p q:List UInt8×Bool):Prop:=p.1 <+: q.1/\(p.2=true->q=p)
theorem Le.refl(p:List UInt8×Bool):Le p p:=⟨List.prefix_refl _,fun _=>rfl⟩
theorem Le.trans{r:List UInt8×Bool}(h:Le p q)(k:Le q r):Le p r:=⟨h.1.trans k.1,fun e=>by
 have:=h.2 e;subst this;exact k.2 e⟩
theorem Le.cat{p' q':List UInt8×Bool}(h:Le p p')(k:Le q q'):Le (cat p q) (cat p' q'):=by
 unfold Pl.cat;by_cases e:p.2=true
 ·have:=h.2 e
  subst this;rw[if_pos e,if_pos e];exact⟨(List.prefix_append_right_inj _).2 k.1,fun z=>by have:=k.2 z;subst this;rfl⟩
 ·rw[if_neg e]
  refine⟨?_,fun z=>absurd z e⟩;split
  ·exact h.1.trans (List.prefix_append _ _)
  ·exact h.1
theorem qk4{o o':Nat->List UInt8×Bool}(h:∀n,Le (o n) (o' n)):∀l:List It,Le (wgo o m l) (wgo o' m l)
 |[]=>Le.refl _
 |.tx _::l=>(Le.refl _).cat (qk4 h l)
 |.ho::l=>qk4 h l
 |.ca n::l=>(h n).cat (qk4 h l)
theorem q2e(B:Nat->List It)(m:Nat):∀h n:Nat,Le (wd B m h n) (wd B m (h+1) n)
 |0,_=>⟨List.nil_prefix,fun q=>by cases q⟩
 |h+1,n=>qk4 (q2e B m h) (B n)
theorem qru(B:Nat->List It)(m:Nat){h k:Nat}(hk:h<=k)(n:Nat):Le (wd B m h n) (wd B m k n):=by
 induction hk with
 |refl=>exact Le.refl _
 |step _ ih=>exact ih.trans (q2e B m _ n)
theorem qvq(p q r:List UInt8×Bool):cat p (cat q r)=cat (cat p q) r:=by
 unfold cat;by_cases a:p.2=true
 ·by_cases b:q.2=true
  ·simp[a,b]
  ·simp[a,b]
 ·simp[a]
theorem qjm(o:Nat->List UInt8×Bool)(m:Nat)(k:List It):∀l:List It,wgo o m (l++k)=cat (wgo o m l) (wgo o m k)
 |[]=>by simp[wgo,cat]
 |.tx t::l=>by
   show cat _ (wgo o m (l++k))=cat (cat _ _) _;rw[qjm o m k l,qvq]
 |.ho::l=>qjm o m k l
 |.ca n::l=>by
   show cat _ (wgo o m (l++k))=cat (cat _ _) _;rw[qjm o m k l,qvq]
theorem zar(B:Nat->List It)(m:Nat):∀(h:Nat) (l:List It) (x y:Sx),Kin x y->x.st.mode=m->∀x',go (fin B h) l x=some x' ->
  ∃y',go (fin B h) l y=some y'/\(x'=y'\/∃w,wgo (wd B m h) m l=(w,true)/\x'=x.app w/\y'=y.app w):=by
 intro h
 induction h with
 |zero=>
   intro l
   induction l with
   |nil=>intro x y _ _ x' q;injection q with q;subst q;exact⟨y,rfl,.inr ⟨[],rfl,rfl,rfl⟩⟩
   |cons i l ih=>
     intro x y hk hm x' q;cases i with
     |tx t=>
       cases ha:(al m t).2
       ·have:=q98 t x y hk hm ha
        have q:go (fin B 0) l (qav x t)=some x':=q;exact⟨x',by show go _ l (qav y t)=_;rw[<-this];exact q,.inl rfl⟩
       ·have hy:Nam y:=by have:=hk.eq;rw[this];exact⟨hk.nam.mode,hk.nam.kind,hk.nam.ma⟩
        have Ha:y.st.mode=m:=by rw[<-hm];exact congrArg (fun z=>z.st.mode) hk.eq
        have q:go (fin B 0) l (qav x t)=some x':=q;rw[qrk t x hk.nam hm ha]at q;obtain⟨y',q1,q2⟩:=ih _ _ (hk.app t) hm x' q;refine⟨y',by show go _ l (qav y t)=_;rw[qrk t y hy Ha ha];exact q1,q2.imp id ?_⟩;rintro⟨w,e1,e2,e3⟩;exact⟨t++w,by show cat _ _=_;rw[e1];unfold cat;rw[if_pos ha,q7m m t ha],by rw[e2,qhr],by rw[e3,qhr]⟩
     |ho=>
       have hy:Nam y:=by have:=hk.eq;rw[this];exact⟨hk.nam.mode,hk.nam.kind,hk.nam.ma⟩
       have q:go (fin B 0) l x.behindHole=some x':=q;rw[qlh hk.nam]at q;obtain⟨y',q1,q2⟩:=ih x y hk hm x' q;exact⟨y',by show go _ l y.behindHole=_;rw[qlh hy];exact q1,q2⟩
     |ca n=>cases q
 |succ h ihh=>
   intro l
   induction l with
   |nil=>intro x y _ _ x' q;injection q with q;subst q;exact⟨y,rfl,.inr ⟨[],rfl,rfl,rfl⟩⟩
   |cons i l ih=>
     intro x y hk hm x' q;have hy:Nam y:=by have:=hk.eq;rw[this];exact⟨hk.nam.mode,hk.nam.kind,hk.nam.ma⟩
     have Ha:y.st.mode=m:=by rw[<-hm];exact congrArg (fun z=>z.st.mode) hk.eq
     cases i with
     |tx t=>
       cases ha:(al m t).2
       ·have:=q98 t x y hk hm ha
        have q:go (fin B (h+1)) l (qav x t)=some x':=q;exact⟨x',by show go _ l (qav y t)=_;rw[<-this];exact q,.inl rfl⟩
       ·have q:go (fin B (h+1)) l (qav x t)=some x':=q
        rw[qrk t x hk.nam hm ha]at q;obtain⟨y',q1,q2⟩:=ih _ _ (hk.app t) hm x' q;refine⟨y',by show go _ l (qav y t)=_;rw[qrk t y hy Ha ha];exact q1,q2.imp id ?_⟩;rintro⟨w,e1,e2,e3⟩;exact⟨t++w,by show cat _ _=_;rw[e1];unfold cat;rw[if_pos ha,q7m m t ha],by rw[e2,qhr],by rw[e3,qhr]⟩
     |ho=>
       have q:go (fin B (h+1)) l x.behindHole=some x':=q;rw[qlh hk.nam]at q;obtain⟨y',q1,q2⟩:=ih x y hk hm x' q;exact⟨y',by show go _ l y.behindHole=_;rw[qlh hy];exact q1,q2⟩
     |ca n=>
       unfold go at q;cases hz:fin B (h+1) n x with
       |none=>rw[hz]at q;cases q
       |some z=>
         rw[hz]at q;have q:go (fin B (h+1)) l z=some x':=q;obtain⟨z',r1,r2⟩:=ihh (B n) x y hk hm z hz;have r1:fin B (h+1) n y=some z':=r1;rcases r2 with rfl|⟨w,e1,rfl,rfl⟩
         ·exact⟨x',by unfold go;rw[r1];exact q,.inl rfl⟩
         ·obtain⟨y',q1,q2⟩:=ih _ _ (hk.app w) hm x' q
          refine⟨y',by unfold go;rw[r1];exact q1,q2.imp id ?_⟩;rintro⟨u,f1,f2,f3⟩;refine⟨w++u,?_,by rw[f2,qhr],by rw[f3,qhr]⟩;show cat (wd B m (h+1) n) _=_;have e1:wd B m (h+1) n=(w,true):=e1;rw[e1,f1];rfl
variable{x:Sx}{n w:List UInt8}
structure Fitn(x:Sx):Prop where
 fit:SxFit x
 nam:x.st.mode=3\/x.st.mode=5->x.st.kind=0/\x.ma=Mk.none
theorem q1m:Fitn Sx.start:=⟨qiz,fun h=>by revert h;decide⟩
theorem qn5(n:List UInt8):(qcg n).mode≠3/\(qcg n).mode≠5:=by
 unfold qcg;split
 ·exact⟨by simp,by simp⟩
 ·show qaw n≠3/\qaw n≠5
  unfold qaw
  repeat' split
  all_goals omega
theorem qxs(b:UInt8)(h:Fitn x):Fitn (x.behind b):=by
 refine⟨qrh b h.fit,?_⟩;by_cases he:19<=x.st.mode/\x.st.ends b=true
 ·rw[qzy x b he.1 he.2];intro _;exact⟨rfl,rfl⟩
 by_cases hq:(qa3.getD x.st.mode false && (x.st.esc || b==92))=true
 ·rw[qvs x b he hq]
  intro hm;rw[Bool.and_eq_true]at hq;rcases hm with hm|hm
  ·have hm:x.st.mode=3:=hm
   rw[hm]at hq;exact absurd hq.1 (by decide)
  ·have hm:x.st.mode=5:=hm
   rw[hm]at hq;exact absurd hq.1 (by decide)
 have hq:=Bool.eq_false_iff.2 hq;have e:=qpo x b _ _ he hq rfl rfl;have hx:=h.nam;have hk:=qvt b h.fit.ok.st;have e0:x.st.behind b=_:=congrArg Sx.st e;rw[e0]at hk;have hk:((St.mk (qbw x.st.mode b) x.st.name x.st.elem x.st.kind (x.st.nowRead b) x.st.esc).led (qde x.st.mode b) b).Ok:=hk;have hb:qbw x.st.mode b=x.st.mode\/qbw x.st.mode b=qg6 x.st.mode:=by unfold qbw;split<;>simp
 have Hb:qg6 x.st.mode≠3/\qg6 x.st.mode≠5:=by
  have hc:=h.fit.ok.st.hi;have:∀m,m<=33->qg6 m≠3/\qg6 m≠5:=by decide
  exact this _ hc
 rw[e];generalize qbw x.st.mode b=r at hb hk |-;generalize qde x.st.mode b=t at hk |-;clear e0 e;intro hm;have ha:((St.mk r x.st.name x.st.elem x.st.kind (x.st.nowRead b) x.st.esc).led t b).mode=3\/((St.mk r x.st.name x.st.elem x.st.kind (x.st.nowRead b) x.st.esc).led t b).mode=5:=hm;by_cases Ha:t=34
 ·exfalso
  subst Ha;have hw:∀s:St,(s.led1 34 b)=qcg s.elem:=by
   intro s;unfold St.led1;rw[if_neg (by decide),if_neg (by decide),if_neg (by decide),if_pos rfl]
  unfold St.led at ha;split at ha
  all_goals
   rw[hw]at ha;rcases ha with q|q
   ·exact(qn5 _).1 q
   ·exact(qn5 _).2 q
 have hf:=q6k (St.mk r x.st.name x.st.elem x.st.kind (x.st.nowRead b) x.st.esc) t b Ha;rw[hf.1]at ha;have Hc:qlj ⟨r,x.st.name,x.st.elem,x.st.kind,x.st.nowRead b,x.st.esc⟩ x.ma t b=Mk.none:=by
  unfold qlj;split
  ·next q=>
   have hr:r=t:=q.1.symm;have He:x.st.mode=3\/x.st.mode=5:=by
    rcases hb with z|z
    ·omega
    ·exact absurd z (by have:=Hb.1;have:=Hb.2;omega)
   obtain⟨z1,z2⟩:=hx He;have Hf:r=3\/r=5:=by omega
   simp only;rw[z1,z2];rcases Hf with rfl|rfl<;>rfl
  ·rfl
 refine⟨?_,Hc⟩;show((St.mk r x.st.name x.st.elem x.st.kind (x.st.nowRead b) x.st.esc).led t b).kind=0;rw[qsr _ _ _ Ha];rcases ha with rfl|rfl
 ·have:=hk.bare
  rw[hf.1]at this;rw[<-qsr _ 3 _ Ha];exact(this (.inl (by omega))).2
 ·rw[if_pos (.inr (.inl rfl))]
theorem q4i(h:Fitn x):Fitn x.behindHole:=by
 refine⟨qim h.fit,?_⟩;unfold Sx.behindHole;split
 ·next q=>
  intro hm;have:=(qdf q.1).1;have hm:x.st.mode=3\/x.st.mode=5:=hm;omega
 ·exact h.nam
theorem Fitn.na(h:Fitn x)(hm:x.st.mode=3\/x.st.mode=5):Nam x:=⟨hm,(h.nam hm).1,(h.nam hm).2⟩
theorem mix(k:Nat){a b a' b':Nat}(h:a*k+b=a'*k+b')(hb:b<k)(ha:b'<k):a=a'/\b=b':=by
 have e:b=b':=by
  have h1:(a*k+b) % k=b:=by rw[Nat.mul_comm,Nat.mul_add_mod,Nat.mod_eq_of_lt hb]
  have h2:(a'*k+b') % k=b':=by rw[Nat.mul_comm,Nat.mul_add_mod,Nat.mod_eq_of_lt ha]
  rw[<-h1,h,h2]
 subst e;exact⟨Nat.eq_of_mul_eq_mul_right (by omega) (by omega:a*k=a'*k),rfl⟩
theorem mix8{a b c d e f g i a' b' c' d' e' f' g' i':Nat}(h:((((((a*5+b)*12+c)*2+d)*2+e)*6+f)*3+g)*4+i=((((((a'*5+b')*12+c')*2+d')*2+e')*6+f')*3+g')*4+i')
  (hb:b<5/\b'<5) (hc:c<12/\c'<12) (hd:d<2/\d'<2) (he:e<2/\e'<2) (hf:f<6/\f'<6) (hg:g<3/\g'<3) (hi:i<4/\i'<4) :
  a=a'/\b=b'/\c=c'/\d=d'/\e=e'/\f=f'/\g=g'/\i=i':=by
 obtain⟨h,q8⟩:=mix 4 h hi.1 hi.2;obtain⟨h,q7⟩:=mix 3 h hg.1 hg.2;obtain⟨h,q6⟩:=mix 6 h hf.1 hf.2;obtain⟨h,q5⟩:=mix 2 h he.1 he.2;obtain⟨h,q4⟩:=mix 2 h hd.1 hd.2;obtain⟨h,q3⟩:=mix 12 h hc.1 hc.2;obtain⟨q1,q2⟩:=mix 5 h hb.1 hb.2;exact⟨q1,q2,q3,q4,q5,q6,q7,q8⟩
def qyk:List (List UInt8):=[qd3,qgp,qct,qcw,[104,114,101,102],[115,114,99],[97,99,116,105,111,110],[111,110]]
def qdi:List (List UInt8):=qyk.flatMap fun w=>(List.range (w.length+1)).map fun k=>w.take k
theorem ql5(hw:w∈qyk)(h:n <+: w):n∈qdi:=
 List.mem_flatMap.2 ⟨w,hw,List.mem_map.2 ⟨n.length,List.mem_range.2 (by have:=h.length_le;omega),(List.prefix_iff_eq_take.1 h).symm⟩⟩
def qni(n:List UInt8):Bool:=[111,110].isPrefixOf n
def idx(n:List UInt8):Nat:=qdi.findIdx (·== n)
theorem q39(n:List UInt8):idx n<48:=Nat.lt_succ_of_le (Nat.le_trans List.findIdx_le_length (by decide))
theorem qxp(h:n∈qdi):qdi[idx n]?=some n:=by
 have hl:idx n<qdi.length:=List.findIdx_lt_length_of_exists ⟨n,h,by simp⟩;have:=List.findIdx_getElem (w:=hl);rw[List.getElem?_eq_getElem hl];exact congrArg some (beq_iff_eq.1 this)
theorem q38(h:n∉qdi):qdi[idx n]?=none:=by
 refine List.getElem?_eq_none ?_;rcases Nat.lt_or_ge (idx n) qdi.length with hl|hl
 ·have:=List.findIdx_getElem (w:=hl)
  exact absurd (beq_iff_eq.1 this▸List.getElem_mem hl) h
 ·exact hl
def q7f(n:List UInt8):Nat:=(n.length*48+idx n)*2+(qni n).toNat
theorem q4k(w:List UInt8):∀n:List UInt8,n <+: ext n w:=by
 induction w with
 |nil=>intro n;exact List.prefix_refl _
 |cons b w ih=>
   intro n;refine List.IsPrefix.trans ?_ (ih (qc4 n b));unfold qc4;split
   ·exact List.prefix_refl _
   ·exact List.prefix_append _ _
theorem qoz(h:n∉qdi)(u:List UInt8)(hw:w∈qyk):ext n u≠w:=fun e=>h (ql5 hw (e▸q4k u n))
theorem q71(h:n∉qdi)(w:List UInt8):qax (ext n w)=[]:=by
 unfold qax;refine if_neg ?_;rintro(e|e|e|e)
 all_goals exact qoz h w (by decide) e
theorem zao(h:n∉qdi)(w:List UInt8):qni (ext n w)=qni n:=by
 obtain⟨r,hr⟩:=q4k w n;rw[<-hr]
 match n,h with
 |[],h=>exact absurd (ql5 (w:=qd3) (by decide) List.nil_prefix) h
 |[a],h=>
   have ha:a≠111:=fun e=>h (by rw[e];exact ql5 (w:=[111,110]) (by decide) ⟨[110],rfl⟩);unfold qni;simp[List.isPrefixOf,beq_eq_false_iff_ne.2 (Ne.symm ha)]
 |a::b::t,h=>unfold qni;simp[List.isPrefixOf]
theorem q70(h:n∉qdi)(w:List UInt8):qcx (ext n w)=if qni n=true then 2 else 0:=by
 rw[<-zao h w];have hw:∀v∈qyk,(v==ext n w)=false:=fun v hv=>beq_eq_false_iff_ne.2 (fun e=>qoz h w hv e.symm);have h1:=hw [104,114,101,102] (by decide);have h2:=hw [115,114,99] (by decide);have h3:=hw [97,99,116,105,111,110] (by decide);have h4:=hw qcw (by decide);have h5:=hw [111,110] (by decide);generalize ext n w=z at *;unfold qcx qdv;simp only[List.find?,qbb,h1,h2,h3,h4,h5,Bool.false_or,Bool.false_and,Bool.true_and];unfold qni;cases hz:[111,110].isPrefixOf z<;>simp
def kr(s:St):Nat:=if s.mode<19 then(s.kind+3).toNat else s.read
def q7g(x:Sx):Nat:=((((((x.st.mode*5+qco x.st.elem)*12+kr x.st)*2+x.st.esc.toNat)*2+x.ma.ref.toNat)*6+x.ma.hex.toNat)*3+x.ma.pct.toNat)*4+x.ma.far.toNat
def cls2(x:Sx):Nat:=if x.st.mode=3\/x.st.mode=5 then 587520+(x.st.mode / 5*5+qco x.st.elem)*960+q7f x.st.name else q7g x
theorem qg4(n:List UInt8):qco n<5:=by
 unfold qco
 repeat' split
 all_goals omega
theorem q9g{s:St}(h:s.Ok):kr s<12:=by
 unfold kr;have h1:=h.wrap;have h2:=h.read;have h3:=qjw h.elem;unfold St.ending at h2;simp only[List.length_cons]at h2;split<;>omega
theorem qgj(b:Bool):b.toNat<2:=by cases b<;>decide
theorem qte(h:Fitn x):q7g x<587520:=by
 unfold q7g;have h1:=h.fit.ok.st.hi;have h2:=qg4 x.st.elem;have h3:=q9g h.fit.ok.st;have h4:=qgj x.st.esc;have h5:=qgj x.ma.ref;have h6:=h.fit.ok.ma.hex;have h7:=h.fit.ok.ma.pct;have h8:=h.fit.far;omega
theorem qtd(h:n.length<=9):q7f n<960:=by
 unfold q7f;have:=q39 n;have:=qgj (qni n);omega
theorem qyc(h:Fitn x):cls2 x<597120:=by
 unfold cls2;split
 ·next q=>
  have h2:=qg4 x.st.elem;have h3:=qtd h.fit.ok.st.name;have:x.st.mode / 5<=1:=by rcases q with q|q<;>rw[q]<;>decide
  omega
 ·have:=qte h;omega
theorem zaq{y:Sx}(hx:Fitn x)(hy:Fitn y)(h:cls2 x=cls2 y):x=y\/Kin x y:=by
 have ox:=hx.fit.ok.st;have oy:=hy.fit.ok.st;unfold cls2 at h;by_cases nx:x.st.mode=3\/x.st.mode=5
 ·by_cases ny:y.st.mode=3\/y.st.mode=5
  ·rw[if_pos nx,if_pos ny]at h
   have c1:=qtd ox.name;have c2:=qtd oy.name;obtain⟨h,hn⟩:=mix 960 (a:=x.st.mode / 5*5+qco x.st.elem) (a':=y.st.mode / 5*5+qco y.st.elem) (by omega) c1 c2;obtain⟨hm,he⟩:=mix 5 h (qg4 _) (qg4 _);have hm:y.st.mode=x.st.mode:=by rcases nx with q|q<;>rcases ny with r|r<;>rw[q,r]at hm<;>omega
   have he:y.st.elem=x.st.elem:=(qmj ox.elem oy.elem he).symm;unfold q7f at hn;obtain⟨hn,ho⟩:=mix 2 hn (qgj _) (qgj _);obtain⟨hl,hi⟩:=mix 48 hn (q39 _) (q39 _);have ho:qni x.st.name=qni y.st.name:=by revert ho;cases qni x.st.name<;>cases qni y.st.name<;>simp
   have nmx:=hx.na nx;have nmy:=hy.na ny;have hr:y.st.read=x.st.read:=by rw[ox.low (by omega),oy.low (by omega)]
   have hc:y.st.esc=x.st.esc:=by
    rw[ox.calm (qo1 nx 0).1,oy.calm (qo1 ny 0).1]
   have hq:y=⟨{ x.st with name:=y.st.name },x.ma⟩:=by
    have k1:=nmx.kind;have k2:=nmy.kind;have k3:=nmx.ma;have k4:=nmy.ma;obtain⟨⟨m,n,e,k,r,c⟩,K⟩:=x;obtain⟨⟨m',n',e',k',r',c'⟩,K'⟩:=y;simp only at hm he hr hc k1 k2 k3 k4 |-;rw[hm,he,hr,hc,k1,k2,k3,k4]
   by_cases hs:x.st.name∈qdi
   ·have g1:=qxp hs
    rw[hi]at g1;have ha:y.st.name∈qdi:=by
     by_cases z:y.st.name∈qdi
     ·exact z
     ·rw[q38 z]at g1;cases g1
    rw[qxp ha]at g1;have e:y.st.name=x.st.name:=Option.some.inj g1;left;rw[hq,e]
   ·have ha:y.st.name∉qdi:=by
     intro z;have g1:=qxp z;rw[<-hi,q38 hs]at g1;cases g1
    exact .inr ⟨nmx,hq,hl,fun w=>by rw[q71 hs,q71 ha],fun w=>by rw[q70 hs,q70 ha,ho]⟩
  ·rw[if_pos nx,if_neg ny]at h
   have:=qte hy;omega
 ·by_cases ny:y.st.mode=3\/y.st.mode=5
  ·rw[if_neg nx,if_pos ny]at h
   have:=qte hx;omega
  ·rw[if_neg nx,if_neg ny]at h
   left;unfold q7g at h;have a1:=hx.fit.far;have a2:=hy.fit.far;have a3:=hx.fit.ok.ma.pct;have a4:=hy.fit.ok.ma.pct;have a5:=hx.fit.ok.ma.hex;have a6:=hy.fit.ok.ma.hex;obtain⟨q1,q2,q3,q4,q5,q6,q7,q8⟩:=mix8 h ⟨qg4 _,qg4 _⟩ ⟨q9g ox,q9g oy⟩ ⟨qgj _,qgj _⟩ ⟨qgj _,qgj _⟩ (by omega) (by omega) (by omega);have e2:=qmj ox.elem oy.elem q2;have n1:=ox.named (fun z=>nx (.inl z)) (fun z=>nx (.inr z));have n2:=oy.named (fun z=>ny (.inl z)) (fun z=>ny (.inr z));have e4:x.st.esc=y.st.esc:=by revert q4;cases x.st.esc<;>cases y.st.esc<;>simp
   have e5:x.ma.ref=y.ma.ref:=by revert q5;cases x.ma.ref<;>cases y.ma.ref<;>simp
   have e3:x.st.kind=y.st.kind/\x.st.read=y.st.read:=by
    unfold kr at q3;rw[q1]at q3;have w1:=ox.wrap;have w2:=oy.wrap;by_cases hm:y.st.mode<19
    ·rw[if_pos hm,if_pos hm]at q3
     exact⟨by omega,by rw[ox.low (by omega),oy.low hm]⟩
    ·rw[if_neg hm,if_neg hm]at q3
     exact⟨by rw[(ox.high (by omega)).2,(oy.high (by omega)).2],q3⟩
   obtain⟨⟨m,n,e,k,r,c⟩,⟨f1,f2,f3,f4⟩⟩:=x;obtain⟨⟨m',n',e',k',r',c'⟩,⟨g1,g2,g3,g4⟩⟩:=y;simp only at *;have z6:f2=g2:=by omega
   have z7:f3=g3:=by omega
   have z8:f4=g4:=by omega
   rw[q1,n1,n2,e2,e3.1,e3.2,e4,e5,z6,z7,z8]
variable{w w':List UInt8}{B:Nat->List It}{k c:Nat}
abbrev Vt:=Nat×Sx
theorem zaa(B:Nat->List It)(m:Nat):∀(h:Nat) (l:List It) (x:Sx) (w:List UInt8),Nam x->x.st.mode=m->wgo (wd B m h) m l=(w,true)->go (fin B h) l x=some (x.app w):=by
 have aux:∀(h:Nat),(∀(n:Nat) (x:Sx) (w:List UInt8),Nam x->x.st.mode=m->wd B m h n=(w,true)->fin B h n x=some (x.app w)) ->
   ∀(l:List It) (x:Sx) (w:List UInt8),Nam x->x.st.mode=m->wgo (wd B m h) m l=(w,true)->go (fin B h) l x=some (x.app w):=by
  intro h hf l
  induction l with
  |nil=>intro x w _ _ q;injection q with q _;subst q;rfl
  |cons i l ih=>
    intro x w hx hm q;have hc:∀(p r:List UInt8×Bool),cat p r=(w,true)->p.2=true/\r.2=true/\w=p.1++r.1:=by
     intro p r e;unfold cat at e;by_cases z:p.2=true
     ·rw[if_pos z]at e;injection e with e1 e2;exact⟨z,e2,e1.symm⟩
     ·rw[if_neg z]at e;rw[e]at z;exact absurd rfl z
    cases i with
    |tx t=>
      obtain⟨q1,q2,rfl⟩:=hc _ _ q;show go _ l (qav x t)=_;rw[qrk t x hx hm q1,ih _ _ (hx.app t) hm (Prod.ext rfl q2),qhr,q7m m t q1]
    |ho=>
      show go _ l x.behindHole=_;rw[qlh hx];exact ih x w hx hm q
    |ca n=>
      obtain⟨q1,q2,rfl⟩:=hc _ _ q;unfold go;rw[hf n x _ hx hm (Prod.ext rfl q1)];simp only;rw[ih _ _ (hx.app _) hm (Prod.ext rfl q2),qhr]
 intro h
 induction h with
 |zero=>exact aux 0 (fun n x w _ _ q=>by cases q)
 |succ h ih=>exact aux (h+1) (fun n x w hx hm q=>ih (B n) x w hx hm q)
def Desc(B:Nat->List It)(b:Vt)(w:List UInt8)(u:Vt):Prop:=
 u.2=b.2.app w/\((w=[]/\u.1=b.1)\/(Nam b.2/\∀h,∃h',w++(wd B b.2.st.mode h u.1).1 <+: (wd B b.2.st.mode h' b.1).1))
def za2(B:Nat->List It)(x:Sx)(pre:List It):Prop:=¬(Nam x/\∃h w,wgo (wd B x.st.mode h) x.st.mode pre=(w,true))
structure Sub(B:Nat->List It)(n:Nat)(x:Sx)(k:Nat)(b:Vt):Prop where
 at_:(B n)[k]?=some (.ca b.1)
 via:Via B ((B n).take k) x b.2
def Cd(B:Nat->List It)(R:List Vt)(u:Vt)(c:Nat):Prop:=
 ∃b w cb,Desc B b w u/\u.1<6/\c=(cb*10+min w.length 9)*6+u.1/\b.2.st.name.length<=9 /\
   ((cb<300/\R[cb]?=some b)\/∃n x k,n<6/\k<2000/\Fitn x/\za2 B x ((B n).take k)/\Sub B n x k b/\cb=300+((n*597120+cls2 x)*2000+k))
def InS(B:Nat->List It)(R:List Vt)(u:Vt):Prop:=∃c,Cd B R u c
theorem q9u(w:List UInt8):∀n:List UInt8,n.length<=9->(ext n w).length=min (n.length+w.length) 9:=by
 induction w with
 |nil=>intro n h;show n.length=_;simp;omega
 |cons b w ih=>
   intro n h;show(ext (qc4 n b) w).length=_;unfold qc4;split
   ·next q=>rw[ih n h];simp only[List.length_cons];omega
   ·rw[ih _ (by rw[List.length_append];simp only[List.length_cons,List.length_nil];omega)]
    simp only[List.length_append,List.length_cons,List.length_nil];omega
theorem q64(w:List UInt8):∀n:List UInt8,n.length=9->ext n w=n:=by
 induction w with
 |nil=>intro n _;rfl
 |cons b w ih=>intro n h;show ext (qc4 n b) w=n;unfold qc4;rw[if_pos h];exact ih n h
theorem qzr(n w:List UInt8)(h:n.length<=9):ext n w=ext n (w.take 9):=by
 by_cases q:w.length<=9
 ·rw[List.take_of_length_le q]
 ·have e:w=w.take 9++w.drop 9:=(List.take_append_drop 9 w).symm
  have e2:ext n w=ext (ext n (w.take 9)) (w.drop 9):=by rw[<-qmf,<-e]
  rw[e2];refine q64 _ _ ?_;rw[q9u _ _ h,List.length_take];omega
theorem q52{r:List UInt8}(h:w <+: r)(h':w' <+: r)(e:min w.length 9=min w'.length 9):w.take 9=w'.take 9:=by
 rw[List.prefix_iff_eq_take.1 h,List.prefix_iff_eq_take.1 h',List.take_take,List.take_take]
 congr 1
 omega
theorem q9z{b u u':Vt}(hb:b.2.st.name.length<=9)(h:Desc B b w u)(h':Desc B b w' u')(e:min w.length 9=min w'.length 9):u.2=u'.2:=by
 rw[h.1,h'.1];have key:w.take 9=w'.take 9:=by
  rcases h.2 with⟨rfl,_⟩|⟨_,q⟩
  ·have:w'.length=0:=by simp at e;omega
   rw[List.eq_nil_of_length_eq_zero this]
  ·rcases h'.2 with⟨rfl,_⟩|⟨_,q'⟩
   ·have:min w.length 9=0:=e
    have:w.length=0:=by omega
    rw[List.eq_nil_of_length_eq_zero this]
   ·obtain⟨a,p⟩:=q 0
    obtain⟨a',p'⟩:=q' 0;have m1:=(qru B b.2.st.mode (Nat.le_max_left a a') b.1).1;have m2:=(qru B b.2.st.mode (Nat.le_max_right a a') b.1).1;exact q52 ((List.prefix_append _ _).trans (p.trans m1)) ((List.prefix_append _ _).trans (p'.trans m2)) e
 unfold Sx.app;rw[qzr _ w hb,qzr _ w' hb,key]
theorem zai{n:Nat}{x x':Sx}{b b':Vt}(hx:Fitn x)(ha:Fitn x')(hc:cls2 x=cls2 x')(hf:za2 B x ((B n).take k))(h:Sub B n x k b)(h':Sub B n x' k b'):b=b':=by
 have e1:b.1=b'.1:=by
  have:=h.at_.symm.trans h'.at_;injection this with this;injection this
 refine Prod.ext e1 ?_;rcases zaq hx ha hc with rfl|hk
 ·exact qk7 h.via h'.via
 ·obtain⟨a,q⟩:=h.via
  obtain⟨y,q1,q2⟩:=zar B x.st.mode a _ x x' hk rfl _ q;have e:=qk7 ⟨a,q1⟩ h'.via;rcases q2 with q2|⟨w,q2,_⟩
  ·rw[q2,e]
  ·exact absurd ⟨hk.nam,a,w,q2⟩ hf
theorem zbd{R:List Vt}{u u':Vt}(h:Cd B R u c)(h':Cd B R u' c):u=u':=by
 obtain⟨b,w,cb,hd,h6,hc,hl,hb⟩:=h;obtain⟨b',w',cb',Ha,Hb,Hc,He,ha⟩:=h';obtain⟨q,e1⟩:=mix 6 (hc.symm.trans Hc) h6 Hb;obtain⟨e2,e3⟩:=mix 10 q (Nat.lt_of_le_of_lt (Nat.min_le_right _ _) (by decide)) (Nat.lt_of_le_of_lt (Nat.min_le_right _ _) (by decide));subst e2;have he:b=b':=by
  rcases hb with⟨g1,g2⟩|⟨n,x,k,a1,a2,a3,a4,a5,a6⟩
  ·rcases ha with⟨_,g4⟩|⟨n',x',k',_,_,_,_,_,z⟩
   ·exact Option.some.inj (g2.symm.trans g4)
   ·omega
  ·rcases ha with⟨g3,_⟩|⟨n',x',k',c1,c2,c3,c4,c5,c6⟩
   ·omega
   ·have z0:(n*597120+cls2 x)*2000+k=(n'*597120+cls2 x')*2000+k':=Nat.add_left_cancel (a6.symm.trans c6)
    obtain⟨z,ek⟩:=mix 2000 z0 a2 c2;obtain⟨en,ec⟩:=mix 597120 z (qyc a3) (qyc c3);subst ek en;exact zai a3 c3 ec a4 a5 c5
 subst he;exact Prod.ext e1 (q9z hl hd Ha e3)
theorem zbc{R:List Vt}{u:Vt}(h:Cd B R u c):c<429926418000:=by
 obtain⟨b,w,cb,hd,h6,hc,hl,hb⟩:=h;have:cb<7165440300:=by
  rcases hb with⟨g1,_⟩|⟨n,x,k,a1,a2,a3,_,_,a6⟩
  ·omega
  ·have:=qyc a3;omega
 omega
theorem qsj:∀(n:Nat) (l:List Nat),l.Nodup->(∀x∈l,x<n)->l.length<=n
 |0,l,_,h=>by
   match l,h with
   |[],_=>exact Nat.le_refl _
   |x::_,h=>exact absurd (h x List.mem_cons_self) (Nat.not_lt_zero _)
 |n+1,l,hn,h=>by
   by_cases q:n∈l
   ·have:=qsj n (l.erase n) (hn.erase n) (fun x hx=>by
     have h1:=h x (List.mem_of_mem_erase hx);have h2:x≠n:=fun e=>by rw[e]at hx;exact(List.Nodup.not_mem_erase hn) hx
     omega)
    rw[List.length_erase_of_mem q]at this;omega
   ·have:=qsj n l hn (fun x hx=>by
     have h1:=h x hx;have h2:x≠n:=fun e=>q (e▸hx);omega)
    omega
theorem q9k{R:List Vt}{L:List Vt}(hn:L.Nodup)(h:∀u∈L,InS B R u):L.length<=429926418000:=by
 have hf:∃f:Vt->Nat,∀u∈L,Cd B R u (f u):=by
  refine⟨fun u=>@dite _ (∃c,Cd B R u c) (Classical.propDecidable _) (fun q=>Classical.choose q) (fun _=>0),fun u hu=>?_⟩;have q:∃c,Cd B R u c:=h u hu;simp only[dif_pos q];exact Classical.choose_spec q
 obtain⟨f,hf⟩:=hf;have e:(L.map f).length<=429926418000:=by
  refine qsj _ _ ?_ (fun c hc=>?_)
  ·clear h
   induction L with
   |nil=>exact List.nodup_nil
   |cons u L ih=>
     rw[List.map_cons,List.nodup_cons];rw[List.nodup_cons]at hn;refine⟨fun q=>?_,ih hn.2 (fun v hv=>hf v (List.mem_cons_of_mem _ hv))⟩;obtain⟨v,hv,ev⟩:=List.mem_map.1 q;have c1:=hf u List.mem_cons_self;have c2:=hf v (List.mem_cons_of_mem _ hv);rw[ev]at c2;exact hn.1 (zbd c1 c2▸hv)
  ·obtain⟨u,hu,rfl⟩:=List.mem_map.1 hc
   exact zbc (hf u hu)
 rwa [List.length_map]at e
theorem qzf{R:List Vt}{u:Vt}(hR:R.length<=300)(hu:u∈R)(h6:u.1<6)(hl:u.2.st.name.length<=9):InS B R u:=by
 obtain⟨i,hi,rfl⟩:=List.getElem_of_mem hu;exact⟨(i*10+0)*6+R[i].1,R[i],[],i,⟨rfl,.inl ⟨rfl,rfl⟩⟩,h6,rfl,hl,.inl ⟨by omega,List.getElem?_eq_getElem hi⟩⟩
theorem q9j{R:List Vt}{u b:Vt}(hu:InS B R u)(hf:Fitn u.2)(hB:(B u.1).length<=2000)(hs:Sub B u.1 u.2 k b)(h6:b.1<6)(hl:b.2.st.name.length<=9):InS B R b:=by
 obtain⟨c,b0,w0,cb,hd,Ha,hc,Hb,hb⟩:=hu;have hk:k<(B u.1).length:=(List.getElem?_eq_some_iff.1 hs.at_).1;by_cases q:Nam u.2/\∃h w,wgo (wd B u.2.st.mode h) u.2.st.mode ((B u.1).take k)=(w,true)
 ·obtain⟨hn,h0,w,hw⟩:=q
  have hy:b.2=u.2.app w:=qk7 hs.via ⟨h0,zaa B _ h0 _ _ w hn rfl hw⟩;have ha:∀h,∃h',w++(wd B u.2.st.mode h b.1).1 <+: (wd B u.2.st.mode h' u.1).1:=by
   intro h;refine⟨max h h0+1,?_⟩;have e:B u.1=(B u.1).take k++.ca b.1::(B u.1).drop (k+1):=by
    obtain⟨_,z⟩:=List.getElem?_eq_some_iff.1 hs.at_;have:=(List.take_append_drop k (B u.1)).symm;rw[List.drop_eq_getElem_cons hk,z]at this;exact this
   have e2:wd B u.2.st.mode (max h h0+1) u.1=cat (wgo (wd B u.2.st.mode (max h h0)) u.2.st.mode ((B u.1).take k)) (cat (wd B u.2.st.mode (max h h0) b.1) (wgo (wd B u.2.st.mode (max h h0)) u.2.st.mode ((B u.1).drop (k+1)))):=by
    show wgo _ _ (B u.1)=_;rw[congrArg (wgo (wd B u.2.st.mode (max h h0)) u.2.st.mode) e,qjm];rfl
   have m1:=qk4 (m:=u.2.st.mode) (fun n=>qru B u.2.st.mode (Nat.le_max_right h h0) n) ((B u.1).take k);rw[hw]at m1;have m2:=m1.2 rfl;rw[e2,m2];show w++_ <+: w++_;refine(List.prefix_append_right_inj _).2 ?_;refine List.IsPrefix.trans (qru B u.2.st.mode (Nat.le_max_left h h0) b.1).1 ?_;unfold cat;split
   ·exact List.prefix_append _ _
   ·exact List.prefix_refl _
  have hm:u.2.st.mode=b0.2.st.mode:=by rw[hd.1];rfl
  refine⟨_,b0,w0++w,cb,⟨by rw[hy,hd.1,qhr],.inr ?_⟩,h6,rfl,Hb,hb⟩;rcases hd.2 with⟨rfl,e1⟩|⟨Hc,he⟩
  ·have e:u.2=b0.2:=hd.1
   rw[e,e1]at ha;exact⟨e▸hn,by simpa using ha⟩
  ·refine⟨Hc,fun h=>?_⟩
   obtain⟨h1,p1⟩:=ha h;obtain⟨h2,p2⟩:=he h1;rw[hm]at p1;refine⟨h2,List.IsPrefix.trans ?_ p2⟩;rw[List.append_assoc];exact(List.prefix_append_right_inj _).2 p1
 ·exact⟨_,b,[],_,⟨rfl,.inl ⟨rfl,rfl⟩⟩,h6,rfl,hl,.inr ⟨u.1,u.2,k,Ha,by omega,hf,q,hs,rfl⟩⟩
theorem qzg{R R':List Vt}{u:Vt}(h:InS B R u)(hp:R <+: R'):InS B R' u:=by
 obtain⟨c,b0,w0,cb,hd,ha,hc,Ha,hb⟩:=h;refine⟨c,b0,w0,cb,hd,ha,hc,Ha,hb.imp (fun q=>⟨q.1,?_⟩) id⟩;obtain⟨t,rfl⟩:=hp;rw[List.getElem?_append_left (List.getElem?_eq_some_iff.1 q.2).1];exact q.2
variable{N:List (List UInt8)}{P:List Pt}{i n r r':Nat}{p:Pt}{B:Nat->List It}{u v:Vt}{x:Sx}{W R:List Vt}
def qb6(N:List (List UInt8))(x:List UInt8):Option Nat:=N.findIdx? (·== x)
def qh0(N:List (List UInt8)):Nat->Nat->List Pt->List It
 |_,_,[]=>[]
 |i,s+1,_::l=>qh0 N (i+1) s l
 |i,0,p::l=>
   if p.kind=1 then .tx p.text::qh0 N (i+1) 0 l
   else if p.kind=2 then .ho::qh0 N (i+1) 0 l
   else if p.kind=3\/p.kind=4 then qh0 N (i+1) (p.mate - i) l
   else if p.kind=6 then(match qb6 N p.text with
    |some n=>.ca n::qh0 N (i+1) 0 l
    |none=>qh0 N (i+1) 0 l)
   else qh0 N (i+1) 0 l
theorem qq5(N:List (List UInt8)):∀(s:Nat) (l:List Pt) (i:Nat),qh0 N i s l=qh0 N (i+s) 0 (l.drop s)
 |0,_,_=>rfl
 |s+1,[],i=>by rw[List.drop_nil];rfl
 |s+1,p::l,i=>by
   show qh0 N (i+1) s l=_;rw[qq5 N s l (i+1),List.drop_succ_cons,show i+1+s=i+(s+1) by omega]
theorem qlk(N:List (List UInt8)):∀(l:List Pt) (i s:Nat),(qh0 N i s l).length<=l.length
 |[],_,_=>by cases ‹Nat›<;>exact Nat.le_refl _
 |p::l,i,s+1=>Nat.le_trans (qlk N l (i+1) s) (by simp)
 |p::l,i,0=>by
   have h0:=qlk N l (i+1) 0;have h1:=qlk N l (i+1) (p.mate - i);unfold qh0;split
   ·simp;omega
   split
   ·simp;omega
   split
   ·simp;omega
   split
   ·split<;>simp<;>omega
   ·simp;omega
def its(N:List (List UInt8))(P:List Pt):List It:=qh0 N 0 0 P
def qdq(N:List (List UInt8))(P:List Pt)(i:Nat):List It:=qh0 N i 0 (P.drop i)
theorem qh1(h:P[i]?=some p):qdq N P i=qh0 N i 0 (p::P.drop (i+1)):=by
 unfold qdq;obtain⟨hi,e⟩:=List.getElem?_eq_some_iff.1 h;rw[List.drop_eq_getElem_cons hi,e]
theorem qi9(h:P[i]?=some p)(hk:p.kind=1):qdq N P i=.tx p.text::qdq N P (i+1):=by
 rw[qh1 h];unfold qh0;rw[if_pos hk];rfl
theorem qja(h:P[i]?=some p)(hk:p.kind=2):qdq N P i=.ho::qdq N P (i+1):=by
 rw[qh1 h];unfold qh0;rw[if_neg (by omega),if_pos hk];rfl
theorem qks(h:P[i]?=some p)(hk:p.kind=3\/p.kind=4)(hm:i<=p.mate):qdq N P i=qdq N P (p.mate+1):=by
 rw[qh1 h];unfold qh0;rw[if_neg (by omega),if_neg (by omega),if_pos hk,qq5,List.drop_drop,show i+1+(p.mate - i)=p.mate+1 by omega];rfl
theorem qgr(h:P[i]?=some p)(hk:p.kind=6)(hn:qb6 N p.text=some n):qdq N P i=.ca n::qdq N P (i+1):=by
 rw[qh1 h];unfold qh0;rw[if_neg (by omega),if_neg (by omega),if_neg (by omega),if_pos hk,hn];rfl
theorem qjx(h:P[i]?=some p)(hk:p.kind=5\/(p.kind=6/\qb6 N p.text=none)):qdq N P i=qdq N P (i+1):=by
 rw[qh1 h];unfold qh0;rcases hk with hk|⟨hk,hn⟩
 ·rw[if_neg (by omega),if_neg (by omega),if_neg (by omega),if_neg (by omega)];rfl
 ·rw[if_neg (by omega),if_neg (by omega),if_neg (by omega),if_pos hk,hn];rfl
theorem qik(h:P.length<=i):qdq N P i=[]:=by
 unfold qdq;rw[List.drop_eq_nil_of_le h];rfl
def Need(B:Nat->List It)(u v:Vt):Prop:=∀h y,fin B h u.1 u.2=some y->∃h' z,h'<h/\fin B h' v.1 v.2=some z
theorem Need.trans{t:Vt}(h:Need B u v)(k:Need B v t):Need B u t:=fun a y e=>by
 obtain⟨b,z,h1,h2⟩:=h a y e;obtain⟨c,x,h3,h4⟩:=k b z h2;exact⟨c,x,by omega,h4⟩
theorem Need.self(h:Need B u u):∀y,¬Done B u.1 u.2 y:=by
 have key:∀n h' y,h'<=n->fin B h' u.1 u.2≠some y:=by
  intro n
  induction n with
  |zero=>intro h' y hn e;obtain⟨b,z,h1,_⟩:=h h' y e;omega
  |succ n ih=>intro h' y hn e;obtain⟨b,z,h1,h2⟩:=h h' y e;exact ih b z (by omega) h2
 rintro y ⟨a,e⟩;exact key a a y (Nat.le_refl _) e
theorem Need.not(h:Need B u v)(hv:∀y,¬Done B v.1 v.2 y):∀y,¬Done B u.1 u.2 y:=by
 rintro y ⟨a,e⟩;obtain⟨b,z,_,h2⟩:=h a y e;exact hv z ⟨b,h2⟩
theorem qxd{m:Nat}{z:Sx}{pre suf:List It}(hB:B n=pre++.ca m::suf)(hv:Via B pre x z):Need B (n,x) (m,z):=by
 intro h y e;cases h with
 |zero=>cases e
 |succ h=>
   have e:go (fin B h) (B n) x=some y:=e;rw[hB,qh2]at e;obtain⟨a,ha⟩:=hv;cases hp:go (fin B h) pre x with
   |none=>rw[hp]at e;cases e
   |some z'=>
     rw[hp]at e;have ez:z'=z:=qk7 ⟨h,hp⟩ ⟨a,ha⟩;subst ez
     have e:(match fin B h m z' with
      |some y=>go (fin B h) suf y
      |none=>none)=some y:=e
     cases hm:fin B h m z' with
     |none=>rw[hm]at e;cases e
     |some t=>exact⟨h,t,Nat.lt_succ_self h,hm⟩
structure Et where
 n:Nat
 x:Sx
 p:Sp
 ok:Bool
structure Cm(x:Sx):Prop where
 fit:Fitn x
 esc:qrn x
 par:∃q,ParX x q
theorem qn2:Cm Sx.start:=⟨q1m,fun h=>by revert h;decide,_,ql9⟩
theorem qtb(l:List UInt8):∀x:Sx,Cm x->Cm (qav x l):=by
 induction l with
 |nil=>intro x h;exact h
 |cons b l ih=>
   intro x h;obtain⟨q,hq⟩:=h.par;exact ih _ ⟨qxs b h.fit,qs3 x b h.fit.fit.ok,_,qo0 x q b h.fit.fit.ok hq⟩
theorem qyb(h:Cm x):Cm x.behindHole:=by
 obtain⟨q,hq⟩:=h.par;exact⟨q4i h.fit,qp7 x h.esc,_,qfl x q h.fit.fit.ok hq⟩
theorem qta{y:Sx}(hx:Cm x)(hy:Cm y)(h:x.view=y.view):x=y:=by
 obtain⟨p,hp⟩:=hx.par;obtain⟨q,hq⟩:=hy.par;exact q5j x y p q hx.fit.fit.ok hy.fit.fit.ok hx.esc hy.esc hp hq h
theorem zaw(hW:∀u∈W,Cm u.2){n:Nat}{x:Sx}(hx:Cm x):((n:Int),x.view)∈W.map (fun u=>((u.1:Int),u.2.view))↔(n,x)∈W:=by
 constructor
 ·intro h
  obtain⟨u,hu,e⟩:=List.mem_map.1 h;injection e with e1 e2;have:u=(n,x):=Prod.ext (by omega) (qta (hW u hu) hx e2);exact this▸hu
 ·intro h;exact List.mem_map.2 ⟨_,h,rfl⟩
structure EtOk(B:Nat->List It)(R:List Vt)(r:Nat)(e:Et):Prop where
 cm:Cm e.x
 ins:InS B R (e.n,e.x)
 sp:SpOk r e.p
 yes:e.ok=true->∃y,Done B e.n e.x y/\ParX y e.p/\Cm y
 no:e.ok=false->∀y,¬Done B e.n e.x y
structure EInv(B:Nat->List It)(R:List Vt)(r:Nat)(E:List Et)(W:List Vt):Prop where
 each:∀e∈E,EtOk B R r e
 apart:(E.map (fun e=>(e.n,e.x))++W).Nodup
 wins:∀u∈W,InS B R u/\Cm u.2
theorem EInv.few{E:List Et}(h:EInv B R r E W):E.length+W.length<=429926418000:=by
 have:=q9k h.apart (fun u hu=>by
  rcases List.mem_append.1 hu with q|q
  ·obtain⟨e,he,rfl⟩:=List.mem_map.1 q
   exact(h.each e he).ins
  ·exact(h.wins u q).1)
 rwa [List.length_append,List.length_map]at this
theorem SpOk.le{p:Sp}(h:SpOk r p)(hr:r<=r'):SpOk r' p:=⟨h.mode,h.tag,h.attr,h.inside,Nat.le_trans h.run hr⟩
theorem EtOk.le{e:Et}(h:EtOk B R r e)(hr:r<=r'):EtOk B R r' e:=⟨h.cm,h.ins,h.sp.le hr,h.yes,h.no⟩
end Go.Proofs.YtfkhljmiehdgmaaGreatDoor.Pl
namespace Go.Proofs.YtfkhljmiehdgmaaGreatDoor
open Go.RowKit
section
variable {w:World}{g:Nat}{t:TypeId}{fz:Nat×Nat}{u0 u1 u2 u3 u4 u5 u6 u7 u8 u9:Value}
theorem q74(h:w.heap[g]?=some (.cells #[u0,u1,u2,u3,u4] t fz)):w.cell? ⟨g,0,none⟩=some u0/\w.cell? ⟨g,1,none⟩=some u1/\w.cell? ⟨g,2,none⟩=some u2/\w.cell? ⟨g,3,none⟩=some u3/\w.cell? ⟨g,4,none⟩=some u4:=
 ⟨qaa h 0 _ rfl,qaa h 1 _ rfl,qaa h 2 _ rfl,qaa h 3 _ rfl,qaa h 4 _ rfl⟩
theorem za9(h:w.heap[g]?=some (.cells #[u0,u1,u2,u3,u4] t (0,0))):w.frozen? ⟨g,0,none⟩=false/\w.frozen? ⟨g,1,none⟩=false/\w.frozen? ⟨g,2,none⟩=false/\w.frozen? ⟨g,3,none⟩=false/\w.frozen? ⟨g,4,none⟩=false:=
 ⟨frozen_of_row _ _ 0 _ _ h,frozen_of_row _ _ 1 _ _ h,frozen_of_row _ _ 2 _ _ h,frozen_of_row _ _ 3 _ _ h,frozen_of_row _ _ 4 _ _ h⟩
theorem qar(h:w.heap[g]?=some (.cells #[u0,u1,u2,u3,u4,u5] t fz)):w.cell? ⟨g,0,none⟩=some u0/\w.cell? ⟨g,1,none⟩=some u1/\w.cell? ⟨g,2,none⟩=some u2/\w.cell? ⟨g,3,none⟩=some u3/\w.cell? ⟨g,4,none⟩=some u4/\w.cell? ⟨g,5,none⟩=some u5:=
 ⟨qaa h 0 _ rfl,qaa h 1 _ rfl,qaa h 2 _ rfl,qaa h 3 _ rfl,qaa h 4 _ rfl,qaa h 5 _ rfl⟩
theorem qd0(h:w.heap[g]?=some (.cells #[u0,u1,u2,u3,u4,u5] t (0,0))):w.frozen? ⟨g,0,none⟩=false/\w.frozen? ⟨g,1,none⟩=false/\w.frozen? ⟨g,2,none⟩=false/\w.frozen? ⟨g,3,none⟩=false/\w.frozen? ⟨g,4,none⟩=false/\w.frozen? ⟨g,5,none⟩=false:=
 ⟨frozen_of_row _ _ 0 _ _ h,frozen_of_row _ _ 1 _ _ h,frozen_of_row _ _ 2 _ _ h,frozen_of_row _ _ 3 _ _ h,frozen_of_row _ _ 4 _ _ h,frozen_of_row _ _ 5 _ _ h⟩
theorem q45(h:w.heap[g]?=some (.cells #[u0,u1,u2,u3,u4,u5,u6,u7,u8] t fz)):w.cell? ⟨g,0,none⟩=some u0/\w.cell? ⟨g,1,none⟩=some u1/\w.cell? ⟨g,2,none⟩=some u2/\w.cell? ⟨g,3,none⟩=some u3/\w.cell? ⟨g,4,none⟩=some u4/\w.cell? ⟨g,5,none⟩=some u5/\w.cell? ⟨g,6,none⟩=some u6/\w.cell? ⟨g,7,none⟩=some u7/\w.cell? ⟨g,8,none⟩=some u8:=
 ⟨qaa h 0 _ rfl,qaa h 1 _ rfl,qaa h 2 _ rfl,qaa h 3 _ rfl,qaa h 4 _ rfl,qaa h 5 _ rfl,qaa h 6 _ rfl,qaa h 7 _ rfl,qaa h 8 _ rfl⟩
theorem qb7(h:w.heap[g]?=some (.cells #[u0,u1,u2,u3,u4,u5,u6,u7,u8,u9] t fz)):w.cell? ⟨g,0,none⟩=some u0/\w.cell? ⟨g,1,none⟩=some u1/\w.cell? ⟨g,2,none⟩=some u2/\w.cell? ⟨g,3,none⟩=some u3/\w.cell? ⟨g,4,none⟩=some u4/\w.cell? ⟨g,5,none⟩=some u5/\w.cell? ⟨g,6,none⟩=some u6/\w.cell? ⟨g,7,none⟩=some u7/\w.cell? ⟨g,8,none⟩=some u8/\w.cell? ⟨g,9,none⟩=some u9:=
 ⟨qaa h 0 _ rfl,qaa h 1 _ rfl,qaa h 2 _ rfl,qaa h 3 _ rfl,qaa h 4 _ rfl,qaa h 5 _ rfl,qaa h 6 _ rfl,qaa h 7 _ rfl,qaa h 8 _ rfl,qaa h 9 _ rfl⟩
theorem qgg(h:w.heap[g]?=some (.cells #[u0,u1,u2,u3,u4,u5,u6,u7,u8,u9] t (0,0))):w.frozen? ⟨g,0,none⟩=false/\w.frozen? ⟨g,1,none⟩=false/\w.frozen? ⟨g,2,none⟩=false/\w.frozen? ⟨g,3,none⟩=false/\w.frozen? ⟨g,4,none⟩=false/\w.frozen? ⟨g,5,none⟩=false/\w.frozen? ⟨g,6,none⟩=false/\w.frozen? ⟨g,7,none⟩=false/\w.frozen? ⟨g,8,none⟩=false/\w.frozen? ⟨g,9,none⟩=false:=
 ⟨frozen_of_row _ _ 0 _ _ h,frozen_of_row _ _ 1 _ _ h,frozen_of_row _ _ 2 _ _ h,frozen_of_row _ _ 3 _ _ h,frozen_of_row _ _ 4 _ _ h,frozen_of_row _ _ 5 _ _ h,frozen_of_row _ _ 6 _ _ h,frozen_of_row _ _ 7 _ _ h,frozen_of_row _ _ 8 _ _ h,frozen_of_row _ _ 9 _ _ h⟩
end
structure Sp3(w0 w:World)(g:Nat)(p q:Pl.Sp):Prop where
 sp:w.heap[w0.heap.size]?=some (.cells (qag p) 94 (0,0))
 res:w.heap[w0.heap.size+1]?=some (.cells (qag ⟨0,[],[],[],[],0⟩) 94 (0,0))
 tt:w.heap[g]?=some (.cells (qag q) 94 (0,0))
 low:Below w0.heap.size w0 w
 gt:w0.heap.size+1<g
section
variable {w0 w w':World}{g:Nat}{p q q':Pl.Sp}{t:TypeId}{fz:Nat×Nat}{u0 u1 u2 u3 u4 u5:Value}
theorem Sp3.lt(h:Sp3 w0 w g p q):g<w.heap.size:=(Array.getElem?_eq_some_iff.1 h.tt).1
theorem Sp3.kept(h:Sp3 w0 w g p q)(hb:Below w.heap.size w w'):Sp3 w0 w' g p q:=by
 have:=h.lt;have:=h.gt;exact⟨(hb.block _ (by omega)).trans h.sp,(hb.block _ (by omega)).trans h.res,(hb.block _ (by omega)).trans h.tt,h.low.trans (hb.mono (by omega)),h.gt⟩
theorem Sp3.alloc(h:Sp3 w0 w g p q)(o:Obj):Sp3 w0 (w.alloc o) g p q:=h.kept ((Below.refl _ w).alloc (Nat.le_refl _) o)
theorem Sp3.drew(h:Sp3 w0 w g p q):Sp3 w0 w.drew g p q:=⟨h.sp,h.res,h.tt,h.low.drew,h.gt⟩
theorem Sp3.put(h:Sp3 w0 w g p q)(j:Nat)(v:Value)(e:(qag q).set! j v=qag q'):Sp3 w0 (w.setCell ⟨g,j,none⟩ v) g p q':=by
 have:=h.gt;refine⟨(heap_setCell_other _ _ _ _ (by show w0.heap.size≠g;omega)).trans h.sp,(heap_setCell_other _ _ _ _ (by show w0.heap.size+1≠g;omega)).trans h.res,?_,h.low.setCell (by show w0.heap.size<=g;omega) _,h.gt⟩;rw[<-e];exact heap_setCell_same w g j _ _ _ h.tt
theorem Sp3.start(w0:World)(p q:Pl.Sp):Sp3 w0 (((w0.alloc (.cells (qag p) 94)).alloc (.cells (qag ⟨0,[],[],[],[],0⟩) 94)).alloc (.cells (qag q) 94)) (w0.heap.size+1+1) p q:=
 ⟨(heap_alloc_old _ _ (by simp;omega)).trans ((heap_alloc_old _ _ (by simp)).trans (heap_alloc_new w0 _)),(heap_alloc_old _ _ (by simp)).trans (qal _ _ _ (by simp)),qal _ _ _ (by simp),((ba _).alloc (by simp) _).alloc (by simp;omega) _,by omega⟩
end
structure Sp2(w0 w:World)(p:Pl.Sp):Prop where
 sp:w.heap[w0.heap.size]?=some (.cells (qag p) 94 (0,0))
 res:w.heap[w0.heap.size+1]?=some (.cells (qag ⟨0,[],[],[],[],0⟩) 94 (0,0))
 low:Below w0.heap.size w0 w
section
variable {w0 w w':World}{p q:Pl.Sp}
theorem Sp2.lt(h:Sp2 w0 w p):w0.heap.size+1<w.heap.size:=(lta h.res)
theorem Sp2.kept(h:Sp2 w0 w p)(hb:Below w.heap.size w w'):Sp2 w0 w' p:=by
 have:=h.lt;exact⟨(hb.block _ (by omega)).trans h.sp,(hb.block _ (by omega)).trans h.res,h.low.trans (hb.mono (by omega))⟩
theorem Sp2.put(h:Sp2 w0 w p)(j:Nat)(v:Value)(e:(qag p).set! j v=qag q):Sp2 w0 (w.setCell ⟨w0.heap.size,j,none⟩ v) q:=by
 refine⟨?_,(heap_setCell_other _ _ _ _ (by show w0.heap.size+1≠w0.heap.size;omega)).trans h.res,h.low.setCell (Nat.le_refl _) _⟩;rw[<-e];exact heap_setCell_same w _ j _ _ _ h.sp
theorem Sp2.start(w0:World)(p:Pl.Sp):Sp2 w0 ((w0.alloc (.cells (qag p) 94)).alloc (.cells (qag ⟨0,[],[],[],[],0⟩) 94)) p:=
 ⟨(heap_alloc_old _ _ (by simp)).trans (heap_alloc_new w0 _),qal _ _ _ (by simp),(ba _).alloc (by simp) _⟩
theorem Sp2.more(h:Sp2 w0 w p)(q:Pl.Sp):Sp3 w0 (w.alloc (.cells (qag q) 94)) w.heap.size p q:=by
 have:=h.lt;exact⟨(heap_alloc_old _ _ (by omega)).trans h.sp,(heap_alloc_old _ _ (by omega)).trans h.res,heap_alloc_new _ _,h.low.alloc (by omega) _,by omega⟩
end
theorem qic(w:World) :
  Calls Tryz.prog 34 #[] w fun e w'=>e=.returned (.agg #[.int .i64 1,.string ⟨#[]⟩,.string ⟨#[]⟩,.string ⟨#[]⟩,.string ⟨#[]⟩,.int .i64 0])/\w.alloc (.cells #[.int .i64 1,.string ⟨#[]⟩,.string ⟨#[]⟩,.string ⟨#[]⟩,.string ⟨#[]⟩,.int .i64 0] 94)=w':=by
 go_enter Tryz.func34,Tryz.ntmps34
 go_wp2
 refine qb4 Tryz.results34 w.heap.size _ _ Tryz.underlying94 rfl rfl (heap_alloc_new _ _) (by kernel_rfl) rfl ?_;exact⟨rfl,rfl⟩
theorem qzc(m:Int)(l:List UInt8)(x:UInt8)(w:World)(hl:l.length<=2000000000000000000) :
  Calls Tryz.prog 169 #[.int .i64 m,.string (ByteArray.mk l.toArray++ByteArray.mk #[x])] w fun e w'=>e=.returned (.string ⟨(Pl.kept m (l++[x])).toArray⟩)/\w=w':=by
 have h:=q6r m (ByteArray.mk l.toArray++ByteArray.mk #[x]) w (by rw[ByteArray.size_append];simp[ByteArray.size];omega);rw[show(ByteArray.mk l.toArray++ByteArray.mk #[x]).data.toList=l++[x] by simp]at h;exact h
theorem q5s(l:List UInt8)(x:UInt8)(w:World)(hl:l.length<=2000000000000000000) :
  Calls Tryz.prog 168 #[.string (ByteArray.mk l.toArray++ByteArray.mk #[x])] w fun e w'=>e=.returned (.string ⟨(Pl.qcb (l++[x])).toArray⟩)/\w=w':=by
 have h:=q5t (ByteArray.mk l.toArray++ByteArray.mk #[x]) w (by rw[ByteArray.size_append];simp[ByteArray.size];omega);rw[show(ByteArray.mk l.toArray++ByteArray.mk #[x]).data.toList=l++[x] by simp]at h;exact h
theorem qig(x:UInt8)(w:World)(g:Nat)(hg:w.heap.size=g):(convert 82 9 (.slice (some ⟨g,0,none⟩) 1 1)).run Tryz.prog (w.alloc (.cells #[.int .u8 x.toNat] 5))=.ok (.string ⟨#[x]⟩) (w.alloc (.cells #[.int .u8 x.toNat] 5)):=by
 subst hg;refine run_convert_bytes_back _ 82 9 5 ⟨w.heap.size,0,none⟩ 1 [x] Tryz.underlying82 Tryz.underlying5 Tryz.underlying9 ?_;intro j hj
 match j,hj with
 |0,_=>simp[Addr.add]
theorem qy3(x:UInt8)(w:World)(g:Nat)(hg:w.heap.size=g):(convert 82 9 (.slice (some ⟨g,0,none⟩) 1 1)).run Tryz.prog (w.alloc (.cells #[.int .u8 x.toNat] 5)).drew=.ok (.string ⟨#[x]⟩) (w.alloc (.cells #[.int .u8 x.toNat] 5)).drew:=by
 subst hg;refine run_convert_bytes_back _ 82 9 5 ⟨w.heap.size,0,none⟩ 1 [x] Tryz.underlying82 Tryz.underlying5 Tryz.underlying9 ?_;intro j hj
 match j,hj with
 |0,_=>simp[Addr.add]
theorem qu3(l:List UInt8)(x:UInt8)(w:World)(hl:l.length<=1000) :
  Calls Tryz.prog 212 #[.string (ByteArray.mk l.toArray++ByteArray.mk #[x])] w fun e w'=>e=.returned (.string ⟨(Pl.qfp (l++[x])).toArray⟩)/\w=w':=by
 have h:=q1r (ByteArray.mk l.toArray++ByteArray.mk #[x]) w (by rw[ByteArray.size_append];simp[ByteArray.size];omega);rw[show(ByteArray.mk l.toArray++ByteArray.mk #[x]).data.toList=l++[x] by simp]at h;exact h
end Go.Proofs.YtfkhljmiehdgmaaGreatDoor
namespace Go.Proofs.YtfkhljmiehdgmaaGreatDoor.Pl
def Mv(B:Nat->List It)(N:List (List UInt8))(P:List Pt)(i:Nat)(x:Sx)(j:Nat)(y:Sx):Prop:=∃p,P[i]?=some p /\
 ((p.kind=1/\j=i+1/\y=qav x p.text)\/(p.kind=2/\j=i+1/\y=x.behindHole)\/((p.kind=3\/p.kind=4)/\(j=i+1\/j=p.mate+1)/\y=x)\/(p.kind=6/\j=i+1/\((qb6 N p.text=none/\y=x)\/∃m,qb6 N p.text=some m/\Done B m x y)))
def Way(B:Nat->List It)(N:List (List UInt8))(P:List Pt):Nat->Nat->Sx->Nat->Sx->Prop
 |0,i,x,j,z=>i=j/\x=z
 |n+1,i,x,j,z=>∃k y,Mv B N P i x k y/\Way B N P n k y j z
def At(N:List (List UInt8))(P:List Pt)(j m:Nat):Prop:=∃p,P[j]?=some p/\p.kind=6/\qb6 N p.text=some m
def Cl(B:Nat->List It)(N:List (List UInt8))(P:List Pt)(R:List Vt)(i:Nat)(x:Sx):Prop:=∀n j z m,Way B N P n i x j z->At N P j m->(m,z)∈R
section
variable {B:Nat->List It}{N:List (List UInt8)}{P:List Pt}{R R':List Vt}{i:Nat}{x:Sx}{p:Pt}
theorem Cl.mono(h:Cl B N P R i x)(hR:∀u∈R,u∈R'):Cl B N P R' i x:=fun n j z m hw ha=>hR _ (h n j z m hw ha)
theorem q43(h0:∀m,At N P i m->(m,x)∈R)(h1:∀j y,Mv B N P i x j y->Cl B N P R j y):Cl B N P R i x:=by
 intro n j z m hw ha;cases n with
 |zero=>obtain⟨rfl,rfl⟩:=hw;exact h0 m ha
 |succ n=>obtain⟨k,y,hm,hw⟩:=hw;exact h1 k y hm n j z m hw ha
theorem q93(h:P.length<=i):Cl B N P R i x:=by
 have hn:=List.getElem?_eq_none h;refine q43 (fun m hq=>?_) fun j y hq=>?_
 ·obtain⟨q,hq,_⟩:=hq;rw[hn]at hq;cases hq
 ·obtain⟨q,hq,_⟩:=hq;rw[hn]at hq;cases hq
theorem qmm(hp:P[i]?=some p)(h1:p.kind=1->Cl B N P R (i+1) (qav x p.text))(h2:p.kind=2->Cl B N P R (i+1) x.behindHole)
  (h3:p.kind=3\/p.kind=4->Cl B N P R (i+1) x/\Cl B N P R (p.mate+1) x) (h6:p.kind=6->(qb6 N p.text=none->Cl B N P R (i+1) x)/\∀m,qb6 N p.text=some m->(m,x)∈R/\∀y,Done B m x y->Cl B N P R (i+1) y):Cl B N P R i x:=by
 refine q43 (fun m hq=>?_) fun j y hq=>?_
 ·obtain⟨q,hq,k,hi⟩:=hq
  rw[hp]at hq;obtain rfl:=Option.some.inj hq;exact((h6 k).2 m hi).1
 ·obtain⟨q,hq,hc⟩:=hq
  rw[hp]at hq;obtain rfl:=Option.some.inj hq;rcases hc with⟨k,rfl,rfl⟩|⟨k,rfl,rfl⟩|⟨k,rfl|rfl,rfl⟩|⟨k,rfl,⟨hn,rfl⟩|⟨m,hm,hd⟩⟩
  ·exact h1 k
  ·exact h2 k
  ·exact(h3 k).1
  ·exact(h3 k).2
  ·exact(h6 k).1 hn
  ·exact((h6 k).2 m hm).2 y hd
theorem q92(hp:P[i]?=some p)(hk:p.kind=1)(h:Cl B N P R (i+1) (qav x p.text)):Cl B N P R i x:=qmm hp (fun _=>h) (fun k=>by omega) (fun k=>by omega) fun k=>by omega
theorem q95(hp:P[i]?=some p)(hk:p.kind=2)(h:Cl B N P R (i+1) x.behindHole):Cl B N P R i x:=qmm hp (fun k=>by omega) (fun _=>h) (fun k=>by omega) fun k=>by omega
theorem zax(hp:P[i]?=some p)(hk:p.kind=3\/p.kind=4)(h:Cl B N P R (i+1) x)(h':Cl B N P R (p.mate+1) x):Cl B N P R i x:=qmm hp (fun k=>by omega) (fun k=>by omega) (fun _=>⟨h,h'⟩) fun k=>by omega
theorem q73(hp:P[i]?=some p)(hk:p.kind=5):Cl B N P R i x:=qmm hp (fun k=>by omega) (fun k=>by omega) (fun k=>by omega) fun k=>by omega
theorem q94(hp:P[i]?=some p)(hk:p.kind=6)(hn:qb6 N p.text=none)(h:Cl B N P R (i+1) x):Cl B N P R i x:=qmm hp (fun k=>by omega) (fun k=>by omega) (fun k=>by omega) fun _=>⟨fun _=>h,fun m hm=>by rw[hn]at hm;cases hm⟩
theorem q44{m:Nat}(hp:P[i]?=some p)(hk:p.kind=6)(hm:qb6 N p.text=some m)(Ha:(m,x)∈R)(h:∀y,Done B m x y->Cl B N P R (i+1) y):Cl B N P R i x:=
 qmm hp (fun k=>by omega) (fun k=>by omega) (fun k=>by omega) fun _=>⟨fun hn=>(by rw[hm]at hn;cases hn),fun m' ha=>(by rw[hm]at ha;obtain rfl:=Option.some.inj ha;exact⟨Ha,h⟩)⟩
end
end Go.Proofs.YtfkhljmiehdgmaaGreatDoor.Pl
