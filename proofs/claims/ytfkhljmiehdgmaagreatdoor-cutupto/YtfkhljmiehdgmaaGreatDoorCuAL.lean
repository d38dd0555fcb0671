/-
  Steps of the proof.
-/
import Derived.Test.YtfkhljmiehdgmaaGreatDoorCuAK
import Derived.Outline
import Derived.Deep.DeepCutAuto
import Derived.Deep.CutBlock
import Derived.Test.YtfkhljmiehdgmaaGreatDoorCuAJ
import Derived.OrdersHeld
import Derived.OrdersIn
import Derived.TacticsIn
import Derived.RangeFuncCalls
import Derived.Lib.OthersKept
import Derived.Test.YtfkhljmiehdgmaaGreatDoorCuAI
set_option maxRecDepth 100000
set_option maxHeartbeats 40000000
namespace Go.Proofs.YtfkhljmiehdgmaaGreatDoor
open Go.RowKit Go.Proofs.Tryz Pl
namespace Pl
variable{B:Nat->List It}{k c:Nat}
abbrev Vt:=Nat×Sx
theorem zgo(B:Nat->List It)(m:Nat):∀(h:Nat) (l:List It) (x:Sx) (w:zU),Nam x->x.st.mode=m->wgo (wd B m h) m l=(w,true)->go (fin B h) l x=some (x.app w):=by
 have aux:∀(h:Nat),(∀(n:Nat) (x:Sx) (w:zU),Nam x->x.st.mode=m->wd B m h n=(w,true)->fin B h n x=some (x.app w)) ->
   ∀(l:List It) (x:Sx) (w:zU),Nam x->x.st.mode=m->wgo (wd B m h) m l=(w,true)->go (fin B h) l x=some (x.app w):=by
  intro h y l
  induction l with
  |nil=>intro x w _ _ q;injection q with q _;subst q;rfl
  |cons i l ih=>
    intro x w D I q;have J:∀(p r:zU×Bool),cat p r=(w,true)->p.2=true/\r.2=true/\w=p.1++r.1:=by
     intro p r e;unfold cat at e;by_cases z:p.2=true
     ·rw[if_pos z]at e;injection e with e1 e2;exact⟨z,e2,e1.symm⟩
     ·rw[if_neg z]at e;rw[e]at z;exact absurd rfl z
    cases i with
    |tx t=>
      obtain⟨q1,q2,rfl⟩:=J _ _ q;show go _ l (qax x t)=_;rw[qtz t x D I q1,ih _ _ (D.app t) I (Prod.ext rfl q2),qia,zdr m t q1]
    |ho=>
      show go _ l x.behindHole=_;rw[qmq D];exact ih x w D I q
    |ca n=>
      obtain⟨q1,q2,rfl⟩:=J _ _ q;unfold go;rw[y n x _ D I (Prod.ext rfl q1)];simp only;rw[ih _ _ (D.app _) I (Prod.ext rfl q2),qia]
 intro h
 induction h with
 |zero=>exact aux 0 (fun n x w _ _ q=>by cases q)
 |succ h ih=>exact aux (h+1) (fun n x w D I q=>ih (B n) x w D I q)
def Desc(B:Nat->List It)(b:Vt)(w:zU)(u:Vt):Prop:=
 u.2=b.2.app w/\((w=[]/\u.1=b.1)\/(Nam b.2/\∀h,∃y,w++(wd B b.2.st.mode h u.1).1 <+: (wd B b.2.st.mode y b.1).1))
def zhu(B:Nat->List It)(x:Sx)(pre:List It):Prop:=¬(Nam x/\∃h w,wgo (wd B x.st.mode h) x.st.mode pre=(w,true))
structure Sub(B:Nat->List It)(n:Nat)(x:Sx)(k:Nat)(b:Vt):Prop where
 at_:(B n)[k]?=some (.ca b.1)
 via:Via B ((B n).take k) x b.2
def Cd(B:Nat->List It)(R:List Vt)(u:Vt)(c:Nat):Prop:=
 ∃b w cb,Desc B b w u/\u.1<6/\c=(cb*10+min w.length 9)*6+u.1/\b.2.st.name.length<=9 /\
   ((cb<300/\R[cb]?=some b)\/∃n x k,n<6/\k<2000/\Fitn x/\zhu B x ((B n).take k)/\Sub B n x k b/\cb=300+((n*597120+cls2 x)*2000+k))
def InS(B:Nat->List It)(R:List Vt)(u:Vt):Prop:=∃c,Cd B R u c
theorem zf4(w:zU):∀n:zU,n.length<=9->(ext n w).length=min (n.length+w.length) 9:=by
 induction w with
 |nil=>intro n h;show n.length=_;simp;omega
 |cons b w ih=>
   intro n h;show(ext (qc8 n b) w).length=_;unfold qc8;split
   ·next q=>rw[ih n h];simp only[yK];omega
   ·rw[ih _ (by rw[yJ];simp only[yK,yQ];omega)]
    simp only[yJ,yK,yQ];omega
theorem zc4(w:zU):∀n:zU,n.length=9->ext n w=n:=by
 induction w with
 |nil=>intro n _;rfl
 |cons b w ih=>intro n h;show ext (qc8 n b) w=n;unfold qc8;rw[if_pos h];exact ih n h
theorem q3m(n w:zU)(h:n.length<=9):ext n w=ext n (w.take 9):=by
 by_cases q:w.length<=9
 ·rw[yp q]
 ·have e:w=w.take 9++w.drop 9:=(yu 9 w).symm
  have e2:ext n w=ext (ext n (w.take 9)) (w.drop 9):=by rw[<-qnv,<-e]
  rw[e2];refine zc4 _ _ ?_;rw[zf4 _ _ h,yP];omega
theorem zbx{w w' r:zU}(h:w <+: r)(y:w' <+: r)(e:min w.length 9=min w'.length 9):w.take 9=w'.take 9:=by
 rw[List.prefix_iff_eq_take.1 h,List.prefix_iff_eq_take.1 y,List.take_take,List.take_take]
 congr 1
 omega
theorem zf9{b u u':Vt}{w w':zU}(y:b.2.st.name.length<=9)(h:Desc B b w u)(z:Desc B b w' u')(e:min w.length 9=min w'.length 9):u.2=u'.2:=by
 rw[h.1,z.1];have key:w.take 9=w'.take 9:=by
  rcases h.2 with⟨rfl,_⟩|⟨_,q⟩
  ·have:w'.length=0:=by simp at e;omega
   rw[yC this]
  ·rcases z.2 with ⟨rfl,_⟩ | ⟨_,q'⟩
   ·have:min w.length 9=0:=e
    have:w.length=0:=by omega
    rw[yC this]
   ·obtain⟨a,p⟩:=q 0
    obtain⟨a',p'⟩:=q' 0;have m1:=(qt8 B b.2.st.mode (Nat.le_max_left a a') b.1).1;have m2:=(qt8 B b.2.st.mode (Nat.le_max_right a a') b.1).1;exact zbx ((List.prefix_append _ _).trans (p.trans m1)) ((List.prefix_append _ _).trans (p'.trans m2)) e
 unfold Sx.app;rw[q3m _ w y,q3m _ w' y,key]
theorem zg3{n:Nat}{x x':Sx}{b b':Vt}(D:Fitn x)(z:Fitn x')(I:cls2 x=cls2 x')(J:zhu B x ((B n).take k))(h:Sub B n x k b)(O:Sub B n x' k b'):b=b':=by
 have e1:b.1=b'.1:=by
  have:=h.at_.symm.trans O.at_;injection this with this;injection this
 refine Prod.ext e1 ?_;rcases zhc D z I with rfl|T
 ·exact qwd h.via O.via
 ·obtain⟨a,q⟩:=h.via
  obtain⟨y,q1,q2⟩:=zhf B x.st.mode a _ x x' T rfl _ q;have e:=qwd ⟨a,q1⟩ O.via;rcases q2 with q2|⟨w,q2,_⟩
  ·rw[q2,e]
  ·exact absurd ⟨T.nam,a,w,q2⟩ J
theorem zid{R:List Vt}{u u':Vt}(h:Cd B R u c)(U:Cd B R u' c):u=u':=by
 obtain⟨b,w,cb,hd,V,X,Y,Z⟩:=h;obtain⟨b',w',cb',D,I,J,T,y⟩:=U;obtain⟨q,e1⟩:=mix 6 (X.symm.trans J) V I;obtain⟨e2,e3⟩:=mix 10 q (Nat.lt_of_le_of_lt (Nat.min_le_right _ _) (by decide)) (Nat.lt_of_le_of_lt (Nat.min_le_right _ _) (by decide));subst e2;have O:b=b':=by
  rcases Z with⟨g1,g2⟩|⟨n,x,k,a1,a2,a3,a4,a5,a6⟩
  ·rcases y with ⟨_,g4⟩ | ⟨n',x',k',_,_,_,_,_,z⟩
   ·exact yk (g2.symm.trans g4)
   ·omega
  ·rcases y with ⟨g3,_⟩ | ⟨n',x',k',c1,c2,c3,c4,c5,c6⟩
   ·omega
   ·have z0:(n*597120+cls2 x)*2000+k=(n'*597120+cls2 x')*2000+k':=Nat.add_left_cancel (a6.symm.trans c6)
    obtain⟨z,ek⟩:=mix 2000 z0 a2 c2;obtain⟨en,ec⟩:=mix 597120 z (q18 a3) (q18 c3);subst ek en;exact zg3 a3 c3 ec a4 a5 c5
 subst O;exact Prod.ext e1 (zf9 Y hd D e3)
theorem zic{R:List Vt}{u:Vt}(h:Cd B R u c):c<429926418000:=by
 obtain⟨b,w,cb,hd,y,z,D,I⟩:=h;have:cb<7165440300:=by
  rcases I with⟨g1,_⟩|⟨n,x,k,a1,a2,a3,_,_,a6⟩
  ·omega
  ·have:=q18 a3;omega
 omega
theorem qu1:∀(n:Nat) (l:List Nat),l.Nodup->(∀x∈l,x<n)->l.length<=n
 |0,l,_,h=>by
   match l,h with
   |[],_=>exact yg _
   |x::_,h=>exact absurd (h x xo) (yZ _)
 |n+1,l,hn,h=>by
   by_cases q:n∈l
   ·have:=qu1 n (l.erase n) (hn.erase n) (fun x y=>by
     have z:=h x (List.mem_of_mem_erase y);have D:x≠n:=fun e=>by rw[e]at y;exact(List.Nodup.not_mem_erase hn) y
     omega)
    rw[List.length_erase_of_mem q]at this;omega
   ·have:=qu1 n l hn (fun x y=>by
     have z:=h x y;have D:x≠n:=fun e=>q (e▸y);omega)
    omega
theorem zfx{R:List Vt}{L:List Vt}(y:L.Nodup)(h:∀u∈L,InS B R u):L.length<=429926418000:=by
 have z:∃f:Vt->Nat,∀u∈L,Cd B R u (f u):=by
  refine⟨fun u=>@dite _ (∃c,Cd B R u c) (Classical.propDecidable _) (fun q=>Classical.choose q) (fun _=>0),fun u D=>?_⟩;have q:∃c,Cd B R u c:=h u D;simp only[dif_pos q];exact Classical.choose_spec q
 obtain⟨f,z⟩:=z;have e:(L.map f).length<=429926418000:=by
  refine qu1 _ _ ?_ (fun c I=>?_)
  ·clear h
   induction L with
   |nil=>exact List.nodup_nil
   |cons u L ih=>
     rw[List.map_cons,List.nodup_cons];rw[List.nodup_cons]at y;refine⟨fun q=>?_,ih y.2 (fun v J=>z v (yX _ J))⟩;obtain⟨v,J,ev⟩:=xq.1 q;have c1:=z u xo;have c2:=z v (yX _ J);rw[ev]at c2;exact y.1 (zid c1 c2▸J)
  ·obtain⟨u,D,rfl⟩:=xq.1 I
   exact zic (z u D)
 rwa [yR]at e
theorem zcm{R:List Vt}{u:Vt}(y:R.length<=300)(z:u∈R)(D:u.1<6)(I:u.2.st.name.length<=9):InS B R u:=by
 obtain⟨i,J,rfl⟩:=List.getElem_of_mem z;exact⟨(i*10+0)*6+R[i].1,R[i],[],i,⟨rfl,.inl ⟨rfl,rfl⟩⟩,D,rfl,I,.inl ⟨by omega,yc J⟩⟩
theorem zfw{R:List Vt}{u b:Vt}(T:InS B R u)(U:Fitn u.2)(V:(B u.1).length<=2000)(X:Sub B u.1 u.2 k b)(Y:b.1<6)(Z:b.2.st.name.length<=9):InS B R b:=by
 obtain⟨c,b0,w0,cb,hd,D,hc,I,hb⟩:=T;have hk:k<(B u.1).length:=(yb.1 X.at_).1;by_cases q:Nam u.2/\∃h w,wgo (wd B u.2.st.mode h) u.2.st.mode ((B u.1).take k)=(w,true)
 ·obtain⟨hn,h0,w,hw⟩:=q
  have hy:b.2=u.2.app w:=qwd X.via ⟨h0,zgo B _ h0 _ _ w hn rfl hw⟩;have y:∀h,∃h',w++(wd B u.2.st.mode h b.1).1 <+: (wd B u.2.st.mode h' u.1).1:=by
   intro h;refine⟨max h h0+1,?_⟩;have e:B u.1=(B u.1).take k++.ca b.1::(B u.1).drop (k+1):=by
    obtain⟨_,z⟩:=yb.1 X.at_;have:=(yu k (B u.1)).symm;rw[yo hk,z]at this;exact this
   have e2:wd B u.2.st.mode (max h h0+1) u.1=cat (wgo (wd B u.2.st.mode (max h h0)) u.2.st.mode ((B u.1).take k)) (cat (wd B u.2.st.mode (max h h0) b.1) (wgo (wd B u.2.st.mode (max h h0)) u.2.st.mode ((B u.1).drop (k+1)))):=by
    show wgo _ _ (B u.1)=_;rw[yE (wgo (wd B u.2.st.mode (max h h0)) u.2.st.mode) e,qkh];rfl
   have m1:=qma (m:=u.2.st.mode) (fun n=>qt8 B u.2.st.mode (Nat.le_max_right h h0) n) ((B u.1).take k);rw[hw]at m1;have m2:=m1.2 rfl;rw[e2,m2];show w++_ <+: w++_;refine(List.prefix_append_right_inj _).2 ?_;refine List.IsPrefix.trans (qt8 B u.2.st.mode (Nat.le_max_left h h0) b.1).1 ?_;unfold cat;split
   ·exact List.prefix_append _ _
   ·exact yA _
  have hm:u.2.st.mode=b0.2.st.mode:=by rw[hd.1];rfl
  refine⟨_,b0,w0++w,cb,⟨by rw[hy,hd.1,qia],.inr ?_⟩,Y,rfl,I,hb⟩;rcases hd.2 with⟨rfl,e1⟩|⟨J,O⟩
  ·have e:u.2=b0.2:=hd.1
   rw[e,e1]at y;exact⟨e▸hn,by simpa using y⟩
  ·refine⟨J,fun h=>?_⟩
   obtain⟨h1,p1⟩:=y h;obtain⟨h2,p2⟩:=O h1;rw[hm]at p1;refine⟨h2,List.IsPrefix.trans ?_ p2⟩;rw[yq];exact(List.prefix_append_right_inj _).2 p1
 ·exact⟨_,b,[],_,⟨rfl,.inl ⟨rfl,rfl⟩⟩,Y,rfl,Z,.inr ⟨u.1,u.2,k,D,by omega,U,q,X,rfl⟩⟩
theorem q3b{R R':List Vt}{u:Vt}(h:InS B R u)(D:R <+: R'):InS B R' u:=by
 obtain⟨c,b0,w0,cb,hd,y,I,z,J⟩:=h;refine⟨c,b0,w0,cb,hd,y,I,z,J.imp (fun q=>⟨q.1,?_⟩) id⟩;obtain⟨t,rfl⟩:=D;rw[yr (yb.1 q.2).1];exact q.2
variable{P:List Pt}{i n r r':Nat}{p:Pt}{B:Nat->List It}{u v:Vt}{x:Sx}{W R:List Vt}
def qfr(N:List zU)(x:zU):Option Nat:=N.findIdx? (·== x)
def qii(N:List zU):Nat->Nat->List Pt->List It
 |_,_,[]=>[]
 |i,s+1,_::l=>qii N (i+1) s l
 |i,0,p::l=>
   if p.kind=1 then .tx p.text::qii N (i+1) 0 l
   else if p.kind=2 then .ho::qii N (i+1) 0 l
   else if p.kind=3\/p.kind=4 then qii N (i+1) (p.mate - i) l
   else if p.kind=6 then(match qfr N p.text with
    |some n=>.ca n::qii N (i+1) 0 l
    | none=>qii N (i+1) 0 l)
   else qii N (i+1) 0 l
theorem qs8(N:List zU):∀(s:Nat) (l:List Pt) (i:Nat),qii N i s l=qii N (i+s) 0 (l.drop s)
 |0,_,_=>rfl
 |s+1,[],i=>by rw[List.drop_nil];rfl
 |s+1,p::l,i=>by
   show qii N (i+1) s l=_;rw[qs8 N s l (i+1),List.drop_succ_cons,show i+1+s=i+(s+1) by omega]
theorem qmu(N:List zU):∀(l:List Pt) (i s:Nat),(qii N i s l).length<=l.length
 |[],_,_=>by cases ‹Nat›<;>exact yg _
 |p::l,i,s+1=>yh (qmu N l (i+1) s) (by simp)
 |p::l,i,0=>by
   have y:=qmu N l (i+1) 0;have z:=qmu N l (i+1) (p.mate - i);unfold qii;split
   ·simp;omega
   split
   ·simp;omega
   split
   ·simp;omega
   split
   ·split<;>simp<;>omega
   ·simp;omega
def its(N:List zU)(P:List Pt):List It:=qii N 0 0 P
def qd9(N:List zU)(P:List Pt)(i:Nat):List It:=qii N i 0 (P.drop i)
theorem qij{N:List zU}(h:P[i]?=some p):qd9 N P i=qii N i 0 (p::P.drop (i+1)):=by
 unfold qd9;obtain⟨y,e⟩:=yb.1 h;rw[yo y,e]
theorem qxq{N:List zU}(h:P[i]?=some p)(y:p.kind=1):qd9 N P i=.tx p.text::qd9 N P (i+1):=by
 rw[qij h];unfold qii;rw[if_pos y];rfl
theorem qxr{N:List zU}(h:P[i]?=some p)(y:p.kind=2):qd9 N P i=.ho::qd9 N P (i+1):=by
 rw[qij h];unfold qii;rw[if_neg (by omega),if_pos y];rfl
theorem q1d{N:List zU}(h:P[i]?=some p)(y:p.kind=3\/p.kind=4)(z:i<=p.mate):qd9 N P i=qd9 N P (p.mate+1):=by
 rw[qij h];unfold qii;rw[if_neg (by omega),if_neg (by omega),if_pos y,qs8,yD,show i+1+(p.mate - i)=p.mate+1 by omega];rfl
theorem qta{N:List zU}(h:P[i]?=some p)(y:p.kind=6)(z:qfr N p.text=some n):qd9 N P i=.ca n::qd9 N P (i+1):=by
 rw[qij h];unfold qii;rw[if_neg (by omega),if_neg (by omega),if_neg (by omega),if_pos y,z];rfl
theorem qs9{N:List zU}(h:P[i]?=some p)(y:p.kind=5\/(p.kind=6/\qfr N p.text=none)):qd9 N P i=qd9 N P (i+1):=by
 rw[qij h];unfold qii;rcases y with y|⟨y,z⟩
 ·rw[if_neg (by omega),if_neg (by omega),if_neg (by omega),if_neg (by omega)];rfl
 ·rw[if_neg (by omega),if_neg (by omega),if_neg (by omega),if_pos y,z];rfl
theorem q1e{N:List zU}(h:P.length<=i):qd9 N P i=[]:=by
 unfold qd9;rw[List.drop_eq_nil_of_le h];rfl
def Need(B:Nat->List It)(u v:Vt):Prop:=∀h y,fin B h u.1 u.2=some y->∃D z,D<h/\fin B D v.1 v.2=some z
theorem Need.trans{t:Vt}(h:Need B u v)(k:Need B v t):Need B u t:=fun a y e=>by
 obtain⟨b,z,D,I⟩:=h a y e;obtain⟨c,x,J,O⟩:=k b z I;exact⟨c,x,by omega,O⟩
theorem Need.self(h:Need B u u):∀y,¬Done B u.1 u.2 y:=by
 have key:∀n h' y,h'<=n->fin B h' u.1 u.2≠some y:=by
  intro n
  induction n with
  |zero=>intro h' y D e;obtain⟨b,z,I,_⟩:=h h' y e;omega
  |succ n ih=>intro h' y D e;obtain⟨b,z,I,J⟩:=h h' y e;exact ih b z (by omega) J
 rintro y ⟨a,e⟩;exact key a a y (yg _) e
theorem Need.not(h:Need B u v)(D:∀y,¬Done B v.1 v.2 y):∀y,¬Done B u.1 u.2 y:=by
 rintro y ⟨a,e⟩;obtain⟨b,z,_,I⟩:=h a y e;exact D z ⟨b,I⟩
theorem zfj{m:Nat}{z:Sx}{pre suf:List It}(D:B n=pre++.ca m::suf)(I:Via B pre x z):Need B (n,x) (m,z):=by
 intro h y e;cases h with
 |zero=>cases e
 |succ h=>
   have e:go (fin B h) (B n) x=some y:=e;rw[D,qj3]at e;obtain⟨a,J⟩:=I;cases O:go (fin B h) pre x with
   |none=>rw[O]at e;cases e
   |some z'=>
     rw[O]at e;have ez:z'=z:=qwd ⟨h,O⟩ ⟨a,J⟩;subst ez
     have e:(match fin B h m z' with
      |some y=>go (fin B h) suf y
      | none=>none)=some y:=e
     cases T:fin B h m z' with
     |none=>rw[T]at e;cases e
     |some t=>exact⟨h,t,Nat.lt_succ_self h,T⟩
structure Et where
 n:Nat
 x:Sx
 p:Sp
 ok:Bool
structure Cm(x:Sx):Prop where
 fit:Fitn x
 esc:qt3 x
 par:∃q,ParX x q
theorem zdi:Cm Sx.start:=⟨q54,fun h=>by revert h;decide,_,qsy⟩
theorem zaj(l:zU):∀x:Sx,Cm x->Cm (qax x l):=by
 induction l with
 |nil=>intro x h;exact h
 |cons b l ih=>
   intro x h;obtain⟨q,y⟩:=h.par;exact ih _ ⟨q1p b h.fit,qvo x b h.fit.fit.ok,_,qxe x q b h.fit.fit.ok y⟩
theorem zai(h:Cm x):Cm x.behindHole:=by
 obtain⟨q,y⟩:=h.par;exact⟨q9o h.fit,qr8 x h.esc,_,qhl x q h.fit.fit.ok y⟩
theorem zah{y:Sx}(z:Cm x)(D:Cm y)(h:x.view=y.view):x=y:=by
 obtain⟨p,I⟩:=z.par;obtain⟨q,J⟩:=D.par;exact za4 x y p q z.fit.fit.ok D.fit.fit.ok z.esc D.esc I J h
theorem zhn(y:∀u∈W,Cm u.2){n:Nat}{x:Sx}(z:Cm x):((n:Int),x.view)∈W.map (fun u=>((u.1:Int),u.2.view))↔(n,x)∈W:=by
 constructor
 ·intro h
  obtain⟨u,D,e⟩:=xq.1 h;injection e with e1 e2;have:u=(n,x):=Prod.ext (by omega) (zah (y u D) z e2);exact this▸D
 ·intro h;exact xq.2 ⟨_,h,rfl⟩
structure EtOk(B:Nat->List It)(R:List Vt)(r:Nat)(e:Et):Prop where
 cm:Cm e.x
 ins:InS B R (e.n,e.x)
 sp:SpOk r e.p
 yes:e.ok=true->∃y,Done B e.n e.x y/\ParX y e.p/\Cm y
 no:e.ok=false->∀y,¬Done B e.n e.x y
structure EInv(B:Nat->List It)(R:List Vt)(r:Nat)(E:List Et)(W:List Vt):Prop where
 each:∀e∈E,EtOk B R r e
 apart:(E.map (fun e=>(e.n,e.x))++W).Nodup
 wins:∀u∈W,InS B R u/\Cm u.2
theorem EInv.few{E:List Et}(h:EInv B R r E W):E.length+W.length<=429926418000:=by
 have:=zfx h.apart (fun u y=>by
  rcases yn.1 y with q|q
  ·obtain⟨e,z,rfl⟩:=xq.1 q
   exact(h.each e z).ins
  ·exact(h.wins u q).1)
 rwa [yJ,yR]at this
theorem SpOk.le{p:Sp}(h:SpOk r p)(y:r<=r'):SpOk r' p:=⟨h.mode,h.tag,h.attr,h.inside,yh h.run y⟩
theorem EtOk.le{e:Et}(h:EtOk B R r e)(y:r<=r'):EtOk B R r' e:=⟨h.cm,h.ins,h.sp.le y,h.yes,h.no⟩
end Pl
section
variable {w:World}{g:Nat}{t:TypeId}{fz:Nat×Nat}{u0 u1 u2 u3 u4 u5 u6 u7 u8 u9:Value}
theorem zeh(h:w.heap[g]?=some (.cells #[u0,u1,u2,u3,u4] t fz)):w.cell? (zO g 0)=some u0/\w.cell? (zO g 1)=some u1/\w.cell? (zO g 2)=some u2/\w.cell? (zO g 3)=some u3/\w.cell? (zO g 4)=some u4:=
 ⟨qaa h 0 _ rfl,qaa h 1 _ rfl,qaa h 2 _ rfl,qaa h 3 _ rfl,qaa h 4 _ rfl⟩
theorem zh8(h:w.heap[g]?=zK #[u0,u1,u2,u3,u4] t):w.frozen? (zO g 0)=false/\w.frozen? (zO g 1)=false/\w.frozen? (zO g 2)=false/\w.frozen? (zO g 3)=false/\w.frozen? (zO g 4)=false:=
 ⟨xH _ _ 0 _ _ h,xH _ _ 1 _ _ h,xH _ _ 2 _ _ h,xH _ _ 3 _ _ h,xH _ _ 4 _ _ h⟩
theorem qbu(h:w.heap[g]?=some (.cells #[u0,u1,u2,u3,u4,u5] t fz)):w.cell? (zO g 0)=some u0/\w.cell? (zO g 1)=some u1/\w.cell? (zO g 2)=some u2/\w.cell? (zO g 3)=some u3/\w.cell? (zO g 4)=some u4/\w.cell? (zO g 5)=some u5:=
 ⟨qaa h 0 _ rfl,qaa h 1 _ rfl,qaa h 2 _ rfl,qaa h 3 _ rfl,qaa h 4 _ rfl,qaa h 5 _ rfl⟩
theorem qgx(h:w.heap[g]?=zK #[u0,u1,u2,u3,u4,u5] t):w.frozen? (zO g 0)=false/\w.frozen? (zO g 1)=false/\w.frozen? (zO g 2)=false/\w.frozen? (zO g 3)=false/\w.frozen? (zO g 4)=false/\w.frozen? (zO g 5)=false:=
 ⟨xH _ _ 0 _ _ h,xH _ _ 1 _ _ h,xH _ _ 2 _ _ h,xH _ _ 3 _ _ h,xH _ _ 4 _ _ h,xH _ _ 5 _ _ h⟩
theorem qcq(h:w.heap[g]?=some (.cells #[u0,u1,u2,u3,u4,u5,u6,u7,u8,u9] t fz)):w.cell? (zO g 0)=some u0/\w.cell? (zO g 1)=some u1/\w.cell? (zO g 2)=some u2/\w.cell? (zO g 3)=some u3/\w.cell? (zO g 4)=some u4/\w.cell? (zO g 5)=some u5/\w.cell? (zO g 6)=some u6/\w.cell? (zO g 7)=some u7/\w.cell? (zO g 8)=some u8/\w.cell? (zO g 9)=some u9:=
 ⟨qaa h 0 _ rfl,qaa h 1 _ rfl,qaa h 2 _ rfl,qaa h 3 _ rfl,qaa h 4 _ rfl,qaa h 5 _ rfl,qaa h 6 _ rfl,qaa h 7 _ rfl,qaa h 8 _ rfl,qaa h 9 _ rfl⟩
theorem qgm(h:w.heap[g]?=zK #[u0,u1,u2,u3,u4,u5,u6,u7,u8,u9] t):w.frozen? (zO g 0)=false/\w.frozen? (zO g 1)=false/\w.frozen? (zO g 2)=false/\w.frozen? (zO g 3)=false/\w.frozen? (zO g 4)=false/\w.frozen? (zO g 5)=false/\w.frozen? (zO g 6)=false/\w.frozen? (zO g 7)=false/\w.frozen? (zO g 8)=false/\w.frozen? (zO g 9)=false:=
 ⟨xH _ _ 0 _ _ h,xH _ _ 1 _ _ h,xH _ _ 2 _ _ h,xH _ _ 3 _ _ h,xH _ _ 4 _ _ h,xH _ _ 5 _ _ h,xH _ _ 6 _ _ h,xH _ _ 7 _ _ h,xH _ _ 8 _ _ h,xH _ _ 9 _ _ h⟩
end
structure Sp3(w0 w:World)(g:Nat)(p q:Sp):Prop where
 sp:w.heap[w0.heap.size]?=zK (qan p) 94
 res:w.heap[w0.heap.size+1]?=zK (qan ⟨0,[],[],[],[],0⟩) 94
 tt:w.heap[g]?=zK (qan q) 94
 low:zW w0 w
 gt:w0.heap.size+1<g
section
variable {w0 w w':World}{g:Nat}{p q q':Sp}{t:TypeId}{fz:Nat×Nat}{u0 u1 u2 u3 u4 u5:Value}
theorem Sp3.lt(h:Sp3 w0 w g p q):g<w.heap.size:=(ya.1 h.tt).1
theorem Sp3.kept(h:Sp3 w0 w g p q)(y:zW w w'):Sp3 w0 w' g p q:=by
 have:=h.lt;have:=h.gt;exact⟨(y.block _ (by omega)).trans h.sp,(y.block _ (by omega)).trans h.res,(y.block _ (by omega)).trans h.tt,h.low.trans (y.mono (by omega)),h.gt⟩
theorem Sp3.alloc(h:Sp3 w0 w g p q)(o:Obj):Sp3 w0 (w.alloc o) g p q:=h.kept ((xL _ w).alloc (yg _) o)
theorem Sp3.drew(h:Sp3 w0 w g p q):Sp3 w0 w.drew g p q:=⟨h.sp,h.res,h.tt,h.low.drew,h.gt⟩
theorem Sp3.put(h:Sp3 w0 w g p q)(j:Nat)(v:Value)(e:(qan q).set! j v=qan q'):Sp3 w0 (w.setCell (zO g j) v) g p q':=by
 have:=h.gt;refine⟨(xJ _ _ _ _ (by show w0.heap.size≠g;omega)).trans h.sp,(xJ _ _ _ _ (by show w0.heap.size+1≠g;omega)).trans h.res,?_,h.low.setCell (by show w0.heap.size<=g;omega) _,h.gt⟩;rw[<-e];exact xG w g j _ _ _ h.tt
theorem Sp3.start(w0:World)(p q:Sp):Sp3 w0 (((w0.alloc (.cells (qan p) 94)).alloc (.cells (qan ⟨0,[],[],[],[],0⟩) 94)).alloc (.cells (qan q) 94)) (w0.heap.size+1+1) p q:=
 ⟨(xI _ _ (by simp;omega)).trans ((xI _ _ (by simp)).trans (xF w0 _)),(xI _ _ (by simp)).trans (qap _ _ _ (by simp)),qap _ _ _ (by simp),((zB _).alloc (by simp) _).alloc (by simp;omega) _,by omega⟩
end
structure Sp2(w0 w:World)(p:Sp):Prop where
 sp:w.heap[w0.heap.size]?=zK (qan p) 94
 res:w.heap[w0.heap.size+1]?=zK (qan ⟨0,[],[],[],[],0⟩) 94
 low:zW w0 w
section
variable {w0 w w':World}{p q:Sp}
theorem Sp2.lt(h:Sp2 w0 w p):w0.heap.size+1<w.heap.size:=(zL h.res)
theorem Sp2.kept(h:Sp2 w0 w p)(y:zW w w'):Sp2 w0 w' p:=by
 have:=h.lt;exact⟨(y.block _ (by omega)).trans h.sp,(y.block _ (by omega)).trans h.res,h.low.trans (y.mono (by omega))⟩
theorem Sp2.put(h:Sp2 w0 w p)(j:Nat)(v:Value)(e:(qan p).set! j v=qan q):Sp2 w0 (w.setCell (zO w0.heap.size j) v) q:=by
 refine⟨?_,(xJ _ _ _ _ (by show w0.heap.size+1≠w0.heap.size;omega)).trans h.res,h.low.setCell (yg _) _⟩;rw[<-e];exact xG w _ j _ _ _ h.sp
theorem Sp2.start(w0:World)(p:Sp):Sp2 w0 ((w0.alloc (.cells (qan p) 94)).alloc (.cells (qan ⟨0,[],[],[],[],0⟩) 94)) p:=
 ⟨(xI _ _ (by simp)).trans (xF w0 _),qap _ _ _ (by simp),(zB _).alloc (by simp) _⟩
theorem Sp2.more(h:Sp2 w0 w p)(q:Sp):Sp3 w0 (w.alloc (.cells (qan q) 94)) w.heap.size p q:=by
 have:=h.lt;exact⟨(xI _ _ (by omega)).trans h.sp,(xI _ _ (by omega)).trans h.res,xF _ _,h.low.alloc (by omega) _,by omega⟩
end
theorem qln(w:World) :
  zC 34 #[] w fun e w'=>e=.returned (.agg #[zI 1,zS,zS,zS,zS,zI 0])/\w.alloc (.cells #[zI 1,zS,zS,zS,zS,zI 0] 94)=w':=by
 go_enter func34,ntmps34
 go_wp2
 refine qb8 results34 w.heap.size _ _ underlying94 rfl rfl (xF _ _) (by kernel_rfl) rfl ?_;exact⟨rfl,rfl⟩
theorem q26(m:Int)(l:zU)(x:UInt8)(w:World)(y:l.length<=2000000000000000000) :
  zC 169 #[zI m,.string (ByteArray.mk l.toArray++ByteArray.mk #[x])] w (zQ (.string ⟨(kept m (l++[x])).toArray⟩) w):=by
 have h:=zck m (ByteArray.mk l.toArray++ByteArray.mk #[x]) w (by rw[ByteArray.size_append];simp[ByteArray.size];omega);rw[show(ByteArray.mk l.toArray++ByteArray.mk #[x]).data.toList=l++[x] by simp]at h;exact h
theorem zbi(l:zU)(x:UInt8)(w:World)(y:l.length<=2000000000000000000) :
  zC 168 #[.string (ByteArray.mk l.toArray++ByteArray.mk #[x])] w (zQ (.string ⟨(qce (l++[x])).toArray⟩) w):=by
 have h:=zbj (ByteArray.mk l.toArray++ByteArray.mk #[x]) w (by rw[ByteArray.size_append];simp[ByteArray.size];omega);rw[show(ByteArray.mk l.toArray++ByteArray.mk #[x]).data.toList=l++[x] by simp]at h;exact h
theorem qi0(x:UInt8)(w:World)(g:Nat)(y:w.heap.size=g):(convert 82 9 (zF g 1 1)).run prog (w.alloc (.cells #[zJ x.toNat] 5))=.ok (.string ⟨#[x]⟩) (w.alloc (.cells #[zJ x.toNat] 5)):=by
 subst y;refine run_convert_bytes_back _ 82 9 5 (zO w.heap.size 0) 1 [x] underlying82 underlying5 underlying9 ?_;intro j z
 match j,z with
 |0,_=>simp[Addr.add]
theorem q2z(x:UInt8)(w:World)(g:Nat)(y:w.heap.size=g):(convert 82 9 (zF g 1 1)).run prog (w.alloc (.cells #[zJ x.toNat] 5)).drew=.ok (.string ⟨#[x]⟩) (w.alloc (.cells #[zJ x.toNat] 5)).drew:=by
 subst y;refine run_convert_bytes_back _ 82 9 5 (zO w.heap.size 0) 1 [x] underlying82 underlying5 underlying9 ?_;intro j z
 match j,z with
 |0,_=>simp[Addr.add]
theorem qx8(l:zU)(x:UInt8)(w:World)(y:l.length<=1000) :
  zC 212 #[.string (ByteArray.mk l.toArray++ByteArray.mk #[x])] w (zQ (.string ⟨(qfx (l++[x])).toArray⟩) w):=by
 have h:=q6d (ByteArray.mk l.toArray++ByteArray.mk #[x]) w (by rw[ByteArray.size_append];simp[ByteArray.size];omega);rw[show(ByteArray.mk l.toArray++ByteArray.mk #[x]).data.toList=l++[x] by simp]at h;exact h
namespace Pl
def Mv(B:Nat->List It)(N:List zU)(P:List Pt)(i:Nat)(x:Sx)(j:Nat)(y:Sx):Prop:=∃p,P[i]?=some p /\
 ((p.kind=1/\j=i+1/\y=qax x p.text)\/(p.kind=2/\j=i+1/\y=x.behindHole)\/((p.kind=3\/p.kind=4)/\(j=i+1\/j=p.mate+1)/\y=x)\/(p.kind=6/\j=i+1/\((qfr N p.text=none/\y=x)\/∃m,qfr N p.text=some m/\Done B m x y)))
def Way(B:Nat->List It)(N:List zU)(P:List Pt):Nat->Nat->Sx->Nat->Sx->Prop
 |0,i,x,j,z=>i=j/\x=z
 |n+1,i,x,j,z=>∃k y,Mv B N P i x k y/\Way B N P n k y j z
def At(N:List zU)(P:List Pt)(j m:Nat):Prop:=∃p,P[j]?=some p/\p.kind=6/\qfr N p.text=some m
def Cl(B:Nat->List It)(N:List zU)(P:List Pt)(R:List Vt)(i:Nat)(x:Sx):Prop:=∀n j z m,Way B N P n i x j z->At N P j m->(m,z)∈R
section
variable {B:Nat->List It}{N:List zU}{P:List Pt}{R R':List Vt}{i:Nat}{x:Sx}{p:Pt}
theorem Cl.mono(h:Cl B N P R i x)(y:∀u∈R,u∈R'):Cl B N P R' i x:=fun n j z m D I=>y _ (h n j z m D I)
theorem zam(D:∀m,At N P i m->(m,x)∈R)(I:∀j y,Mv B N P i x j y->Cl B N P R j y):Cl B N P R i x:=by
 intro n j z m J O;cases n with
 |zero=>obtain⟨rfl,rfl⟩:=J;exact D m O
 |succ n=>obtain⟨k,y,T,J⟩:=J;exact I k y T n j z m J O
theorem zgh(h:P.length<=i):Cl B N P R i x:=by
 have z:=yd h;refine zam (fun m D=>?_) fun j y D=>?_
 ·obtain⟨q,D,_⟩:=D;rw[z]at D;cases D
 ·obtain⟨q,D,_⟩:=D;rw[z]at D;cases D
theorem qn3(z:P[i]?=some p)(D:p.kind=1->Cl B N P R (i+1) (qax x p.text))(I:p.kind=2->Cl B N P R (i+1) x.behindHole)
  (J:p.kind=3\/p.kind=4->Cl B N P R (i+1) x/\Cl B N P R (p.mate+1) x) (O:p.kind=6->(qfr N p.text=none->Cl B N P R (i+1) x)/\∀m,qfr N p.text=some m->(m,x)∈R/\∀y,Done B m x y->Cl B N P R (i+1) y):Cl B N P R i x:=by
 refine zam (fun m T=>?_) fun j y T=>?_
 ·obtain⟨q,T,k,U⟩:=T
  rw[z]at T;obtain rfl:=yk T;exact((O k).2 m U).1
 ·obtain⟨q,T,V⟩:=T
  rw[z]at T;obtain rfl:=yk T;rcases V with⟨k,rfl,rfl⟩|⟨k,rfl,rfl⟩|⟨k,rfl|rfl,rfl⟩|⟨k,rfl,⟨X,rfl⟩|⟨m,Y,hd⟩⟩
  ·exact D k
  ·exact I k
  ·exact(J k).1
  ·exact(J k).2
  ·exact(O k).1 X
  ·exact((O k).2 m Y).2 y hd
theorem zgg(y:P[i]?=some p)(z:p.kind=1)(h:Cl B N P R (i+1) (qax x p.text)):Cl B N P R i x:=qn3 y (fun _=>h) (fun k=>by omega) (fun k=>by omega) fun k=>by omega
theorem zgj(y:P[i]?=some p)(z:p.kind=2)(h:Cl B N P R (i+1) x.behindHole):Cl B N P R i x:=qn3 y (fun k=>by omega) (fun _=>h) (fun k=>by omega) fun k=>by omega
theorem zho(y:P[i]?=some p)(z:p.kind=3\/p.kind=4)(h:Cl B N P R (i+1) x)(D:Cl B N P R (p.mate+1) x):Cl B N P R i x:=qn3 y (fun k=>by omega) (fun k=>by omega) (fun _=>⟨h,D⟩) fun k=>by omega
theorem zeg(y:P[i]?=some p)(z:p.kind=5):Cl B N P R i x:=qn3 y (fun k=>by omega) (fun k=>by omega) (fun k=>by omega) fun k=>by omega
theorem zgi(y:P[i]?=some p)(z:p.kind=6)(D:qfr N p.text=none)(h:Cl B N P R (i+1) x):Cl B N P R i x:=qn3 y (fun k=>by omega) (fun k=>by omega) (fun k=>by omega) fun _=>⟨fun _=>h,fun m I=>by rw[D]at I;cases I⟩
theorem zan{m:Nat}(I:P[i]?=some p)(J:p.kind=6)(O:qfr N p.text=some m)(D:(m,x)∈R)(h:∀y,Done B m x y->Cl B N P R (i+1) y):Cl B N P R i x:=
 qn3 I (fun k=>by omega) (fun k=>by omega) (fun k=>by omega) fun _=>⟨fun T=>(by rw[O]at T;cases T),fun m' z=>(by rw[O]at z;obtain rfl:=yk z;exact⟨D,h⟩)⟩
end
inductive Tok where
 |tx (u:zU)
 |tg (c:zU)
def Tok.bytes:Tok->zU
 |.tx u=>u
 |.tg c=>123::123::(c++[125,125])
end Pl
section
open Go
variable{P:Program}{l n:Nat}{a:Act}{w:World}{ops:Array Oper}
theorem q5e{o:Oper}{K:Act->World->Prop}{Q:Exit->Act->World->Prop}(hd:∀c,o.op≠.defer c)(h:o.wp P a w K Q):o.wpIn (Fence.wide.inRound l) n P a w K Q:=by
 unfold Oper.wpIn;refine⟨fun _ _=>trivial,?_⟩;show Oper.uponIn _ _ _ _ _ _ _ ((o.semAt (some l) a.eval).run P w);rw[Oper.semAt_some l a.eval o hd];unfold Oper.wp at h;generalize (execOp a.eval o).run P w=r at h |-;cases r with
 |ok x w'=>
   cases x<;>simp only[Oper.upon]at h<;>simp only[Oper.uponIn]
   all_goals first
    |exact h
    |exact⟨fun y=>by simp[Fence.wide,Fence.inRound]at y,(callsIn_wide (n:=n - 1)).2 h⟩
    |(refine⟨fun y=>by simp[Fence.wide,Fence.inRound]at y,fun c cs _=>?_⟩;obtain⟨v,w2,r,s⟩:=h c cs;exact⟨v,w2,r,stepsIn_wide.2 s⟩)
 |halt x w'=>cases x<;>simp only[Oper.upon]at h<;>simp only[Oper.uponIn]<;>exact h
def qu2(ops:Array Oper):Bool:=ops.all fun o=>match o.op with
 |.defer _=>false
 |_=>true
theorem q5i(h:qu2 ops=true){i:Nat}{o:Oper}(z:ops[i]?=some o):∀c,o.op≠.defer c:=by
 intro c D;obtain⟨y,I⟩:=ya.1 z;have:=(Array.all_eq_true.1 h) i y;rw[I,D]at this;cases this
theorem q30{i:Nat}{K K':Act->World->Prop}{Q:Exit->Act->World->Prop}(hd:qu2 ops=true)(y:¬LetsOut Q)(hK:∀a w,K a w->K' a w)(h:wpOp P ops Q i K a w):wpOpIn (Fence.wide.inRound l) n P ops Q i K' a w:=by
 have h:=wpOp_mono hK h;unfold wpOp at h;unfold wpOpIn;cases z:ops[i]? with
 |none=>rw[z]at h;exact h
 |some o=>
   rw[z]at h;simp only at h |-;split
   ·rename_i D
    rw[if_pos D]at h;rcases h with h|h
    ·exact q5e (q5i hd z) h
    ·exact absurd h.2 y
   ·rename_i D
    rw[if_neg D]at h;exact⟨fun _ _=>trivial,h⟩
theorem qpk{P:Program}{l n:Nat}{md:Region.Mode}{ops:Array Oper}{Q:Exit->Act->World->Prop}(hd:qu2 ops=true)(y:¬LetsOut Q):∀(fuel:Nat) (listed:Array Bool) (a:Act) (w:World),wpAny P md ops Q fuel listed a w->wpAnyIn (Fence.wide.inRound l) n P md ops Q fuel listed a w
 |0,_,_,_,h=>h
 |fuel+1,_,_,_,h=>⟨h.1,fun i z=>q30 hd y (fun a' w' D=>qpk hd y fuel _ a' w' D) (h.2 i z)⟩
theorem qog{id:Nat}{Q:Exit->Act->World->Prop}{S:World->Prop}(y:P.follows .mixedOrders=true)(hd:qu2 ops=true)(z:¬LetsOut Q)
  (h:wpAnyH P .any ops Q S ops.size (Array.replicate ops.size false) a w.drew):(Code.region id ops true).wpIn (Fence.wide.inRound l) n P Q a w:=
 wpIn_region_any y (qpk hd z _ _ _ _ (wpAny_of_held _ _ _ _ h))
end
section
open Go.Lib
variable{w:World}{B g:Nat}{a0 a1 a2 a3 a4 a7 p v:Value}
structure WbAt(w:World)(B g:Nat)(a0 a1 a2 a3 a4 a7:Value)(l:zU)(p v:Value):Prop where
 le:B<=g
 blk:w.heap[g]?=zK #[a0,a1,a2,a3,a4,p,v,a7] 155
 own:w.ownsRowF B 5 1 v l.length (Lib.byteCells l)
 adr:p=.pointer none\/p=.pointer (some (zO g 5))
 nil:l=[]->v=zN
theorem WbAt.ne{l:zU}(h:WbAt w B g a0 a1 a2 a3 a4 a7 l p v):v.ownBlock≠some g:=ownBlock_neF h.own h.blk (by decide)
theorem WbAt.cells{l:zU}(h:WbAt w B g a0 a1 a2 a3 a4 a7 l p v):w.cell? (zO g 5)=some p/\w.cell? (zO g 6)=some v:=by
 have c:=qaa h.blk;exact⟨c 5 _ rfl,c 6 _ rfl⟩
theorem WbAt.form{l:zU}(h:WbAt w B g a0 a1 a2 a3 a4 a7 l p v):∃ao cap,v=.slice ao l.length cap:=by
 rcases h.own.2 with⟨y,z⟩|⟨k,cap,cur,fz,y,_⟩
 ·exact⟨none,0,by rw[y,z]⟩
 ·exact⟨_,_,y⟩
theorem zem(w:World)(B g:Nat)(a0 a1 a2 a3 a4 a7:Value)(l:zU)(p v:Value)(h:WbAt w B g a0 a1 a2 a3 a4 a7 l p v) :
  zC 188 #[.pointer (some (zO g 5))] w fun e w'=>e=.returned (.tuple #[])/\WbAt w' B g a0 a1 a2 a3 a4 a7 l (.pointer (some (zO g 5))) v/\Below B w w'/\OthersKept 5 (some g) w w':=by
 obtain⟨j,U,J⟩:=yy.1 Builder_X72_240.sizeBuilder;have z:prog.info? 153=some j:=U;have y:liesAt prog prog.depth 155 (8 / prog.cellsOf 155) 5 153 1=true:=by kernel_rfl
 have D:w.shape? g=some (155,8):=by simp[World.shape?,h.blk]
 have O:w.frozen? (zO g 5)=false:=by simp[World.frozen?,h.blk]
 have T:=h.cells.1;rcases h.adr with V|V
 ·have I:WbAt (w.setCell (zO g 5) (.pointer (some (zO g 5)))) B g a0 a1 a2 a3 a4 a7 l (.pointer (some (zO g 5))) v:=by
   refine⟨h.le,?_,h.own.kept (row:=some g) ⟨rfl,rfl,rfl,by simp[World.setCell],fun k _ X=>xK _ _ _ _ (fun e=>X (by simp[e]))⟩ (Or.inr h.ne),.inr rfl,h.nil⟩;exact xG _ _ _ _ _ _ h.blk
  have Y:Below B w (w.setCell (zO g 5) (.pointer (some (zO g 5)))):=(xL B w).setCell (p:=zO g 5) h.le _;have X:OthersKept 5 (some g) w (w.setCell (zO g 5) (.pointer (some (zO g 5)))):=(OthersKept.refl _ _ w).setCell (zO g 5) rfl _;have Z:Hid (WbAt (w.setCell (zO g 5) (.pointer (some (zO g 5)))) B g a0 a1 a2 a3 a4 a7 l (.pointer (some (zO g 5))) v/\Below B w (w.setCell (zO g 5) (.pointer (some (zO g 5))))/\OthersKept 5 (some g) w (w.setCell (zO g 5) (.pointer (some (zO g 5))))):=⟨I,Y,X⟩;subst V;clear h I Y X;go_enter func188,ntmps188
  go_wp2
  rw[Lib.run_to_unsafe w (zO g 5) underlying151 underlying328 z (by rw[J];decide) D (show(5:Nat)<8 by decide)];simp only[Result.andThen];rw[Oper.upon_value];go_wp2
  rw[run_callFunc_extern func221 (by kernel_rfl) (by kernel_rfl) (by kernel_rfl) (e:=Extern.AbiNoEscape.same) (by kernel_rfl)];rw[Lib.run_noEscape];simp only[Result.andThen];rw[Oper.upon_value];go_wp2
  rw[Lib.run_from_unsafe w (zO g 5) underlying328 underlying151 z D y];simp only[Result.andThen];rw[Oper.upon_value];go_wp2
  go_end0
  exact⟨rfl,Z.out⟩
 ·subst V
  have H:=zH h;clear h;go_enter func188,ntmps188
  go_wp2
  rw[Lib.run_neq_ptr_same w _ underlying151 z];go_wp2
  go_end0
  exact⟨rfl,H.out,xL B _,OthersKept.refl _ _ _⟩
theorem za3(w:World)(B g:Nat)(a0 a1 a2 a3 a4 a7:Value)(l:zU)(p v:Value)(h:WbAt w B g a0 a1 a2 a3 a4 a7 l p v) :
  zC 174 #[.pointer (some (zO g 5))] w (zQ (zI l.length) w):=by
 obtain⟨ao,cap,rfl⟩:=h.form;have c6:=h.cells.2;clear h;go_enter func174,ntmps174
 go_wp2
 go_ret
 exact⟨rfl,rfl⟩
theorem ql9{P:Program}(w:World){ops:Array Oper}{rest:List Oper}{o:Oper}{a:Act}{Q:Exit->Act->World->Prop}
  (D:o.guard=none) (s x:Operand) (t u:TypeId) (I:o.op=.call { callee:=.builtin .append,args:=#[s,x],argTypes:=#[t,u] }) (sv xv v':Value) (w':World) (J:a.eval s=sv) (O:a.eval x=xv)
  (y:(Builtin.append_ #[t,u] o.type #[sv,xv]).run P w=.ok v' w') (hK:wpList P ops Q rest (a.put o.dst v') w'):wpList P ops Q (o::rest) a w:=by
 refine wpList_plain D fun K z=>?_;unfold Oper.wp execOp;simp only[I,resolve,invoke,builtin,Sem.run_bind,Sem.run_pure,Result.andThen_ok,List.map_toArray,List.map_cons,List.map_nil,J,O,y];exact z _ _ hK
theorem zgq{w1:World}{l:zU}(h1:WbAt w1 B g a0 a1 a2 a3 a4 a7 l (.pointer (some (zO g 5))) v)(s:zT)(I:l.length+s.size<=140737488355328) :
  ∃ao n' cap w2,(Builtin.append_ #[82,9] 82 #[v,.string s]).run prog w1=.ok (.slice ao n' cap) w2/\w2.cell? (zO g 5)=some (.pointer (some (zO g 5)))/\w2.cell? (zO g 6)=some v/\w2.frozen? (zO g 6)=false /\
    (∃p' v',WbAt (w2.setCell (zO g 6) (.slice ao n' cap)) B g a0 a1 a2 a3 a4 a7 (l++s.data.toList) p' v')/\Below B w1 (w2.setCell (zO g 6) (.slice ao n' cap))/\OthersKept 5 (some g) w1 (w2.setCell (zO g 6) (.slice ao n' cap)):=by
 obtain⟨i0,hi,V,X,Y⟩:=info_parts Builder_Extra_166.infoByte;have T:s.data.toList.length=s.size:=by simp
 have Z:g<w1.heap.size:=(zL h1.blk);have U:=h1.le;obtain⟨v',w2,hr,y,z,J⟩:=run_append_own_stringF (P:=prog) w1 B 82 9 82 5 i0 underlying82 underlying9 hi V X Y v l.length (Lib.byteCells l) h1.own s (by unfold maxLen;omega) I (by omega);have D:w2.heap[g]?=zK #[a0,a1,a2,a3,a4,.pointer (some (zO g 5)),v,a7] 155:=by
  rw[z.block g Z (fun e=>h1.ne e.symm)];exact h1.blk
 have d5:w2.cell? (zO g 5)=some (.pointer (some (zO g 5))):=qaa D 5 _ rfl;have d6:w2.cell? (zO g 6)=some v:=qaa D 6 _ rfl;have f6:w2.frozen? (zO g 6)=false:=by simp[World.frozen?,D]
 obtain⟨ao,n',cap,rfl⟩:∃ao n' cap,v'=.slice ao n' cap:=by
  rcases y.2 with⟨hv,_⟩|⟨k,cap,cur,fz,hv,_⟩
  ·exact⟨_,_,_,hv⟩
  ·exact⟨_,_,_,hv⟩
 have O:(Value.slice ao n' cap).ownBlock≠some g:=ownBlock_neF y D (by decide);refine⟨ao,n',cap,w2,hr,d5,d6,f6,⟨.pointer (some (zO g 5)),.slice ao n' cap,U,xG _ _ _ _ _ _ D,?_,.inr rfl,fun hl=>?_⟩,((xL B w1).grown z (by omega) (fun k hk=>(h1.own.lt k hk).1)).setCell (p:=zO g 6) U _,((OthersKept.refl _ _ w1).grown z (Lib.ownsRowF_kind h1.own)).setCell (zO g 6) rfl _⟩
 ·have hx:w2.ownsRowF B 5 1 (.slice ao n' cap) (l++s.data.toList).length (Lib.byteCells (l++s.data.toList)):=by
   rw[yJ,T];have e:Lib.byteCells (l++s.data.toList)=Lib.byteCells l++Lib.strCells s:=by simp[Lib.byteCells,Lib.strCells]
   rw[e];exact y
  exact hx.kept (row:=some g) ⟨rfl,rfl,rfl,by simp[World.setCell],fun k _ hk=>xK _ _ _ _ (fun e=>hk (by simp[e]))⟩ (Or.inr O)
 ·have h2:=List.append_eq_nil_iff.1 hl
  refine J.2 ⟨h1.nil h2.1,?_⟩;rw[<-T,h2.2];rfl
theorem q62(w:World)(B g:Nat)(a0 a1 a2 a3 a4 a7:Value)(l:zU)(p v:Value)(h:WbAt w B g a0 a1 a2 a3 a4 a7 l p v)(s:zT)(y:l.length+s.size<=140737488355328) :
  zC 142 #[.pointer (some (zO g 5)),.string s] w fun e w'=>e=.returned (.tuple #[zI s.size,.nilIface])/\(∃p' v',WbAt w' B g a0 a1 a2 a3 a4 a7 (l++s.data.toList) p' v')/\Below B w w'/\OthersKept 5 (some g) w w':=by
 have I:Hid (zC 188 #[.pointer (some (zO g 5))] w fun e w1=>e=.returned (.tuple #[])/\∃ao n' cap w2,(Builtin.append_ #[82,9] 82 #[v,.string s]).run prog w1=.ok (.slice ao n' cap) w2/\w2.cell? (zO g 5)=some (.pointer (some (zO g 5)))/\w2.cell? (zO g 6)=some v/\w2.frozen? (zO g 6)=false /\
   w1.cell? (zO g 6)=some v/\Hid ((∃p' v',WbAt (w2.setCell (zO g 6) (.slice ao n' cap)) B g a0 a1 a2 a3 a4 a7 (l++s.data.toList) p' v')/\Below B w (w2.setCell (zO g 6) (.slice ao n' cap))/\OthersKept 5 (some g) w (w2.setCell (zO g 6) (.slice ao n' cap)))):=by
  refine(zem w B g a0 a1 a2 a3 a4 a7 l p v h).mono ?_;rintro e w1 ⟨J,O,z,D⟩;obtain⟨ao,n',cap,w2,T,d5,d6,f6,U,V,hK⟩:=zgq O s y;exact⟨J,ao,n',cap,w2,T,d5,d6,f6,O.cells.2,U,z.trans (V.mono (yg _)),D.trans hK⟩
 clear h y;go_enter func142,ntmps142
 go_wp2_with (first
  |(go_at_call 188;refine xQ I.out ?_;rintro e w1 ⟨rfl,ao,n',cap,w2,T,d5,d6,f6,c6,X⟩)
  | (at_builtin;refine ql9 _ rfl _ _ 82 9 rfl _ _ _ w2 rfl rfl T ?_))
 go_ret2
 exact⟨rfl,X.out⟩
theorem q2i(w:World)(B g:Nat)(a0 a1 a2 a3 a4 a7:Value)(l:zU)(p v:Value)(h:WbAt w B g a0 a1 a2 a3 a4 a7 l p v) :
  zC 61 #[.pointer (some (zO g 5))] w fun e w'=>e=.returned (.string ⟨l.toArray⟩)/\Below B w w'/\OthersKept 5 (some g) w w'/\w'.heap[g]?=w.heap[g]?:=by
 by_cases hl:l=[]
 ·have hv:=h.nil hl
  subst hl;subst hv;have c6:w.drew.cell? (zO g 6)=some (zN):=h.cells.2;have J:=fun(W:World) (q:Option Addr)=>Lib.run_unsafeString_none (P:=prog) W 209 3 9 q;have O:(Builtin.unsafeSliceData_ #[82] 209 #[zN]).run prog w.drew=.ok (.pointer none) w.drew:=rfl;clear h;go_enter func61,ntmps61
  go_wp2
  go_region
  all_goals(go_wp2;go_ret;exact⟨rfl,Below.drew (xL B w),(OthersKept.refl _ _ w).drew,rfl⟩)
 ·have T:l.length≠0:=by simpa using hl
  have y:=h.own;obtain⟨k,cap,cur,fz,rfl,U,hk,V,X,D,Y,z⟩:∃k cap cur fz,v=zF k l.length cap/\B<=k/\w.heap[k]?=some (.cells cur 5 fz)/\fz.2<=l.length*1/\l.length<=cap/\cap<=maxLen/\cur.size=cap*1/\cur.toList.take (l.length*1)=Lib.byteCells l:=by
   rcases y.2 with⟨_,hz⟩|⟨k,cap,cur,fz,hv,r⟩
   ·exact absurd hz T
   ·exact⟨k,cap,cur,fz,hv,r⟩
  have c6:w.drew.cell? (zO g 6)=some (zF k l.length cap):=h.cells.2;have Z:k≠g:=fun e=>h.ne (by rw[e];rfl)
  have O:(Builtin.unsafeSliceData_ #[82] 209 #[zF k l.length cap]).run prog w.drew=.ok (zP k) w.drew:=
   Lib.run_unsafeSliceData_row _ _ _ _ _ _ (by omega)
  have J:(Builtin.unsafeString_ #[209,3] 9 #[zP k,zI l.length]).run prog w.drew=.ok (.string ⟨l.toArray⟩) (w.drew.freeze (zO k 0) l.length):=by
   refine Lib.run_unsafeString_row w.drew 209 3 9 5 underlying209 (by kernel_rfl) k cur.size (by have ha:w.drew.heap[k]?=some (.cells cur 5 fz):=hk;simp[World.shape?,ha]) l hl (by omega) (by unfold maxLen at D;omega) ?_;intro j x hx;exact y.cells (g:=k) rfl j (zJ x.toNat) (by simp[Lib.byteCells,hx])
  have I:(w.drew.freeze (zO k 0) l.length).heap[g]?=w.heap[g]?:=by
   unfold World.freeze;split
   ·rfl
   ·simp only[Array.getElem?_modify]
    rw[if_neg Z];rfl
  have HR:Hid (Below B w (w.drew.freeze (zO k 0) l.length)/\OthersKept 5 (some g) w (w.drew.freeze (zO k 0) l.length)/\(w.drew.freeze (zO k 0) l.length).heap[g]?=w.heap[g]?):=⟨Lib.below_freeze (Below.drew (xL B w)) (p:=zO k 0) U _,((Lib.OthersKept.refl _ _ w).drew).freeze (zO k 0) _ ⟨cur,fz,hk⟩,I⟩;clear h y hk V X D Y z I;go_enter func61,ntmps61
  go_wp2
  go_region
  all_goals(go_wp2;go_ret;exact⟨rfl,HR.out⟩)
variable{w:World}{B g:Nat}{a0 a1 a2 a3 a4 a7 p v:Value}
theorem WbAt.drew{l:zU}(h:WbAt w B g a0 a1 a2 a3 a4 a7 l p v):WbAt w.drew B g a0 a1 a2 a3 a4 a7 l p v:=⟨h.le,h.blk,h.own,h.adr,h.nil⟩
theorem WbAt.all{l:zU}(h:WbAt w B g a0 a1 a2 a3 a4 a7 l p v):w.cell? (zO g 0)=some a0/\w.cell? (zO g 1)=some a1/\w.cell? (zO g 2)=some a2/\w.cell? (zO g 3)=some a3/\w.cell? (zO g 4)=some a4/\w.cell? (zO g 7)=some a7/\∀j,w.frozen? (zO g j)=false:=by
 have c:=qaa h.blk;exact⟨c 0 _ rfl,c 1 _ rfl,c 2 _ rfl,c 3 _ rfl,c 4 _ rfl,c 7 _ rfl,fun j=>by simp[World.frozen?,h.blk]⟩
theorem q7t(w:World)(B g:Nat)(a0 a1 a2 a3 a7:Value)(l:zU)(p v:Value)(h:WbAt w B g a0 a1 a2 a3 (zI 5000) a7 l p v) :
  zC 124 #[zP g] w (zQ (zI 5) w):=by
 obtain⟨_,_,_,_,c4,_,_⟩:=h.all;clear h;go_enter func124,ntmps124
 go_wp2
 go_ret
 exact⟨rfl,rfl⟩
theorem ze2(w:World)(B g n:Nat)(a0 a1 a2 a3 a7:Value)(l:zU)(p v:Value)(D:n<5000)(h:WbAt w B g a0 a1 a2 a3 (zI n) a7 l p v) :
  zC 124 #[zP g] w fun e w'=>e=.returned (zI 0)/\WbAt w' B g a0 a1 a2 a3 (zI (n+1:Nat)) a7 l p v/\Below B w w'/\OthersKept 5 (some g) w w':=by
 obtain⟨_,_,_,_,c4,_,I⟩:=h.all;have f4:=I 4;have y:¬(n:Int)=5000:=by omega
 have J:IntKind.i64.wrap ((n:Int)+1)=(n:Int)+1:=by rw[IntKind.wrap_i64];omega
 have z:(n:Int)+1<=5000:=by omega
 have O:Hid (WbAt (w.setCell (zO g 4) (zI ((n:Int)+1))) B g a0 a1 a2 a3 (zI (n+1:Nat)) a7 l p v/\Below B w (w.setCell (zO g 4) (zI ((n:Int)+1)))/\OthersKept 5 (some g) w (w.setCell (zO g 4) (zI ((n:Int)+1)))):=by
  refine⟨⟨h.le,xG _ _ _ _ _ _ h.blk,h.own.kept (row:=some g) ⟨rfl,rfl,rfl,by simp[World.setCell],fun k _ T=>xK _ _ _ _ (fun e=>T (by simp[e]))⟩ (Or.inr h.ne),h.adr,h.nil⟩,(xL B w).setCell (p:=zO g 4) h.le _,(OthersKept.refl _ _ w).setCell (zO g 4) rfl _⟩
 clear h I;go_enter func124,ntmps124
 go_wp2
 go_ret
 exact⟨rfl,O.out⟩
theorem q6w(w:World)(B g:Nat)(a0 a1 a3 a4 a7:Value)(rm:Int)(l:zU)(p v:Value)(h:WbAt w B g a0 a1 (zI rm) a3 a4 a7 l p v)(s:zT)(z:l.length+s.size<=140737488355328)(I:rm<=9223372036854775807)(U:rm<0\/(l.length+s.size:Int)<=rm) :
  zC 125 #[zP g,.string s] w fun e w'=>e=.returned (zI 0)/\(∃p' v',WbAt w' B g a0 a1 (zI rm) a3 a4 a7 (l++s.data.toList) p' v')/\Below B w w'/\OthersKept 5 (some g) w w':=by
 have H:=zH h;have V:Hid (∀m,zC 142 #[.pointer (some (zO g 5)),.string s] (w.drewN m) fun e w'=>e=.returned (.tuple #[zI s.size,.nilIface])/\(∃p' v',WbAt w' B g a0 a1 (zI rm) a3 a4 a7 (l++s.data.toList) p' v')/\Below B w w'/\OthersKept 5 (some g) w w'):=fun m=>by
  have X:WbAt (w.drewN m) B g a0 a1 (zI rm) a3 a4 a7 l p v:=⟨h.le,h.blk,h.own,h.adr,h.nil⟩;refine(q62 (w.drewN m) B g a0 a1 (zI rm) a3 a4 a7 l p v X s z).mono ?_;rintro e w' ⟨Y,Z,hb,hk⟩;exact⟨Y,Z,(qat (xL B w) m).trans hb,fun k o ho h1 X=>hk k o ho h1 X⟩
 have HL:Hid (∀m,zC 174 #[.pointer (some (zO g 5))] (w.drewN m) fun e w'=>e=.returned (zI l.length)/\w.drewN m=w'):=fun m=>by
  have X:WbAt (w.drewN m) B g a0 a1 (zI rm) a3 a4 a7 l p v:=⟨h.le,h.blk,h.own,h.adr,h.nil⟩;exact za3 (w.drewN m) B g a0 a1 (zI rm) a3 a4 a7 l p v X
 obtain⟨_,_,c2,_,_,_,hf⟩:=h.all;clear h hf;by_cases y:rm<0
 ·have D:decide ((0:Int)<=rm)=false:=by rw[yO];omega
  clear U y;go_enter func125,ntmps125
  go_wp2
  go_quiet (fail)
  go_wp2_with (go_at_call 142;refine xQ (V.out _) ?_;rintro e w' ⟨rfl,hR⟩)
  go_ret
  exact⟨rfl,hR⟩
 ·have D:decide ((0:Int)<=rm)=true:=by rw[decide_eq_true_iff];omega
  have J:((l.length+s.size:Nat):Int)<=rm:=by rcases U with h|h<;>omega
  have hs:IntKind.i64.wrap (rm - (l.length:Int))=rm - (l.length:Int):=by rw[IntKind.wrap_i64];omega
  have O:decide (rm - (l.length:Int)<(s.size:Int))=false:=by rw[yO];omega
  have T:¬(rm - (l.length:Int)<(s.size:Int)):=by omega
  clear U y;go_enter func125,ntmps125
  go_wp2
  go_quiet ((go_at_call 174;refine qko (HL.out _)))
  go_wp2_with (go_at_call 142;refine xQ (V.out _) ?_;rintro e w' ⟨rfl,hR⟩)
  go_ret
  exact⟨rfl,hR⟩
end
end Go.Proofs.YtfkhljmiehdgmaaGreatDoor
