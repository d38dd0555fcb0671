/-
  Steps of the proof.
-/
import Derived.Test.YtfkhljmiehdgmaaGreatDoorCmAO
set_option maxRecDepth 100000
set_option maxHeartbeats 40000000
namespace Go.Proofs.YtfkhljmiehdgmaaGreatDoor.Pl
abbrev Vt:=Nat×Sx
theorem q9q(B:Nat→List It)(m:Nat):∀(h:Nat) (l:List It) (x:Sx) (w:List UInt8),Nam x→x.st.mode=m→wgo (wd B m h) m l=(w,true)→go (fin B h) l x=some (x.app w):=by
 have aux:∀(h:Nat),(∀(n:Nat) (x:Sx) (w:List UInt8),Nam x→x.st.mode=m→wd B m h n=(w,true)→fin B h n x=some (x.app w)) →
   ∀(l:List It) (x:Sx) (w:List UInt8),Nam x→x.st.mode=m→wgo (wd B m h) m l=(w,true)→go (fin B h) l x=some (x.app w):=by
  intro h hf l
  induction l with
  | nil=>intro x w _ _ q;injection q with q _;subst q;rfl
  | cons i l ih=>
    intro x w hx hm q;have hc:∀(p r:List UInt8×Bool),cat p r=(w,true)→p.2=true∧r.2=true∧w=p.1++r.1:=by
     intro p r e;unfold cat at e;by_cases z:p.2=true
     ·rw[if_pos z]at e;injection e with e1 e2;exact⟨z,e2,e1.symm⟩
     ·rw[if_neg z]at e;rw[e]at z;exact absurd rfl z
    cases i with
    | tx t=>
      obtain⟨q1,q2,rfl⟩:=hc _ _ q;show go _ l (qaw x t)=_;rw[qrc t x hx hm q1,ih _ _ (hx.app t) hm (Prod.ext rfl q2),qhp,q66 m t q1]
    | ho=>
      show go _ l x.behindHole=_;rw[qlc hx];exact ih x w hx hm q
    | ca n=>
      obtain⟨q1,q2,rfl⟩:=hc _ _ q;unfold go;rw[hf n x _ hx hm (Prod.ext rfl q1)];simp only;rw[ih _ _ (hx.app _) hm (Prod.ext rfl q2),qhp]
 intro h
 induction h with
 | zero=>exact aux 0 (fun n x w _ _ q=>by cases q)
 | succ h ih=>exact aux (h+1) (fun n x w hx hm q=>ih (B n) x w hx hm q)
def Desc(B:Nat→List It)(b:Vt)(w:List UInt8)(u:Vt):Prop:=
 u.2=b.2.app w∧((w=[]∧u.1=b.1)∨(Nam b.2∧∀h,∃h',w++(wd B b.2.st.mode h u.1).1 <+: (wd B b.2.st.mode h' b.1).1))
def zai(B:Nat→List It)(x:Sx)(pre:List It):Prop:=¬(Nam x∧∃h w,wgo (wd B x.st.mode h) x.st.mode pre=(w,true))
structure Sub(B:Nat→List It)(n:Nat)(x:Sx)(k:Nat)(b:Vt):Prop where
 at_:(B n)[k]?=some (.ca b.1)
 via:Via B ((B n).take k) x b.2
def Cd(B:Nat→List It)(R:List Vt)(u:Vt)(c:Nat):Prop:=
 ∃b w cb,Desc B b w u∧u.1<6∧c=(cb*10+min w.length 9)*6+u.1∧b.2.st.name.length≤9 ∧
   ((cb<300∧R[cb]?=some b)∨∃n x k,n<6∧k<2000∧Fitn x∧zai B x ((B n).take k)∧Sub B n x k b∧cb=300+((n*597120+cls2 x)*2000+k))
def InS(B:Nat→List It)(R:List Vt)(u:Vt):Prop:=∃c,Cd B R u c
theorem q9c(w:List UInt8):∀n:List UInt8,n.length≤9→(ext n w).length=min (n.length+w.length) 9:=by
 induction w with
 | nil=>intro n h;show n.length=_;simp;omega
 | cons b w ih=>
   intro n h;show (ext (qc2 n b) w).length=_;unfold qc2;split
   ·next q=>rw[ih n h];simp only[List.length_cons];omega
   ·rw[ih _ (by rw[List.length_append];simp only[List.length_cons,List.length_nil];omega)]
    simp only[List.length_append,List.length_cons,List.length_nil];omega
theorem q6n(w:List UInt8):∀n:List UInt8,n.length=9→ext n w=n:=by
 induction w with
 | nil=>intro n _;rfl
 | cons b w ih=>intro n h;show ext (qc2 n b) w=n;unfold qc2;rw[if_pos h];exact ih n h
theorem qze(n w:List UInt8)(h:n.length≤9):ext n w=ext n (w.take 9):=by
 by_cases q:w.length≤9
 ·rw[List.take_of_length_le q]
 ·have e:w=w.take 9++w.drop 9:=(List.take_append_drop 9 w).symm
  have e2:ext n w=ext (ext n (w.take 9)) (w.drop 9):=by rw[←ql9,←e]
  rw[e2];refine q6n _ _ ?_;rw[q9c _ _ h,List.length_take];omega
theorem q5n{w w' r:List UInt8}(h:w <+: r)(h':w' <+: r)(e:min w.length 9=min w'.length 9):w.take 9=w'.take 9:=by
 rw[List.prefix_iff_eq_take.1 h,List.prefix_iff_eq_take.1 h',List.take_take,List.take_take]
 congr 1
 omega
theorem q9g{B:Nat→List It}{b u u':Vt}{w w':List UInt8}(hb:b.2.st.name.length≤9)(h:Desc B b w u)(h':Desc B b w' u')(e:min w.length 9=min w'.length 9):u.2=u'.2:=by
 rw[h.1,h'.1];have key:w.take 9=w'.take 9:=by
  rcases h.2 with ⟨rfl,_⟩ | ⟨_,q⟩
  ·have:w'.length=0:=by simp at e;omega
   rw[List.eq_nil_of_length_eq_zero this]
  ·rcases h'.2 with ⟨rfl,_⟩ | ⟨_,q'⟩
   ·have:min w.length 9=0:=e
    have:w.length=0:=by omega
    rw[List.eq_nil_of_length_eq_zero this]
   ·obtain⟨a,p⟩:=q 0
    obtain⟨a',p'⟩:=q' 0;have m1:=(qrm B b.2.st.mode (Nat.le_max_left a a') b.1).1;have m2:=(qrm B b.2.st.mode (Nat.le_max_right a a') b.1).1;exact q5n ((List.prefix_append _ _).trans (p.trans m1)) ((List.prefix_append _ _).trans (p'.trans m2)) e
 unfold Sx.app;rw[qze _ w hb,qze _ w' hb,key]
theorem q9y{B:Nat→List It}{n k:Nat}{x x':Sx}{b b':Vt}(hx:Fitn x)(ha:Fitn x')(hc:cls2 x=cls2 x')(hf:zai B x ((B n).take k))(h:Sub B n x k b)(h':Sub B n x' k b'):b=b':=by
 have e1:b.1=b'.1:=by
  have:=h.at_.symm.trans h'.at_;injection this with this;injection this
 refine Prod.ext e1 ?_;rcases q96 hx ha hc with rfl | hk
 ·exact qk3 h.via h'.via
 ·obtain⟨a,q⟩:=h.via
  obtain⟨y,q1,q2⟩:=q97 B x.st.mode a _ x x' hk rfl _ q;have e:=qk3 ⟨a,q1⟩ h'.via;rcases q2 with q2 | ⟨w,q2,_⟩
  ·rw[q2,e]
  ·exact absurd ⟨hk.nam,a,w,q2⟩ hf
theorem zat{B:Nat→List It}{R:List Vt}{u u':Vt}{c:Nat}(h:Cd B R u c)(h':Cd B R u' c):u=u':=by
 obtain⟨b,w,cb,hd,h6,hc,hl,hb⟩:=h;obtain⟨b',w',cb',Ha,Hb,Hc,He,ha⟩:=h';obtain⟨q,e1⟩:=mix 6 (hc.symm.trans Hc) h6 Hb;obtain⟨e2,e3⟩:=mix 10 q (Nat.lt_of_le_of_lt (Nat.min_le_right _ _) (by decide)) (Nat.lt_of_le_of_lt (Nat.min_le_right _ _) (by decide));subst e2;have he:b=b':=by
  rcases hb with ⟨g1,g2⟩ | ⟨n,x,k,a1,a2,a3,a4,a5,a6⟩
  ·rcases ha with ⟨_,g4⟩ | ⟨n',x',k',_,_,_,_,_,z⟩
   ·exact Option.some.inj (g2.symm.trans g4)
   ·omega
  ·rcases ha with ⟨g3,_⟩ | ⟨n',x',k',c1,c2,c3,c4,c5,c6⟩
   ·omega
   ·have z0:(n*597120+cls2 x)*2000+k=(n'*597120+cls2 x')*2000+k':=Nat.add_left_cancel (a6.symm.trans c6)
    obtain⟨z,ek⟩:=mix 2000 z0 a2 c2;obtain⟨en,ec⟩:=mix 597120 z (qxz a3) (qxz c3);subst ek en;exact q9y a3 c3 ec a4 a5 c5
 subst he;exact Prod.ext e1 (q9g hl hd Ha e3)
theorem zas{B:Nat→List It}{R:List Vt}{u:Vt}{c:Nat}(h:Cd B R u c):c<429926418000:=by
 obtain⟨b,w,cb,hd,h6,hc,hl,hb⟩:=h;have:cb<7165440300:=by
  rcases hb with ⟨g1,_⟩ | ⟨n,x,k,a1,a2,a3,_,_,a6⟩
  ·omega
  ·have:=qxz a3;omega
 omega
theorem qsb:∀(n:Nat) (l:List Nat),l.Nodup→(∀x∈l,x<n)→l.length≤n
 | 0,l,_,h=>by
   match l,h with
   | [],_=>exact Nat.le_refl _
   | x::_,h=>exact absurd (h x List.mem_cons_self) (Nat.not_lt_zero _)
 | n+1,l,hn,h=>by
   by_cases q:n∈l
   ·have:=qsb n (l.erase n) (hn.erase n) (fun x hx=>by
     have h1:=h x (List.mem_of_mem_erase hx);have h2:x≠n:=fun e=>by rw[e]at hx;exact(List.Nodup.not_mem_erase hn) hx
     omega)
    rw[List.length_erase_of_mem q]at this;omega
   ·have:=qsb n l hn (fun x hx=>by
     have h1:=h x hx;have h2:x≠n:=fun e=>q (e▸hx);omega)
    omega
theorem q82{B:Nat→List It}{R:List Vt}{L:List Vt}(hn:L.Nodup)(h:∀u∈L,InS B R u):L.length≤429926418000:=by
 have hf:∃f:Vt→Nat,∀u∈L,Cd B R u (f u):=by
  refine⟨fun u=>@dite _ (∃c,Cd B R u c) (Classical.propDecidable _) (fun q=>Classical.choose q) (fun _=>0),fun u hu=>?_⟩;have q:∃c,Cd B R u c:=h u hu;simp only[dif_pos q];exact Classical.choose_spec q
 obtain⟨f,hf⟩:=hf;have e:(L.map f).length≤429926418000:=by
  refine qsb _ _ ?_ (fun c hc=>?_)
  ·clear h
   induction L with
   | nil=>exact List.nodup_nil
   | cons u L ih=>
     rw[List.map_cons,List.nodup_cons];rw[List.nodup_cons]at hn;refine⟨fun q=>?_,ih hn.2 (fun v hv=>hf v (List.mem_cons_of_mem _ hv))⟩;obtain⟨v,hv,ev⟩:=List.mem_map.1 q;have c1:=hf u List.mem_cons_self;have c2:=hf v (List.mem_cons_of_mem _ hv);rw[ev]at c2;exact hn.1 (zat c1 c2▸hv)
  ·obtain⟨u,hu,rfl⟩:=List.mem_map.1 hc
   exact zas (hf u hu)
 rwa [List.length_map]at e
theorem qy2{B:Nat→List It}{R:List Vt}{u:Vt}(hR:R.length≤300)(hu:u∈R)(h6:u.1<6)(hl:u.2.st.name.length≤9):InS B R u:=by
 obtain⟨i,hi,rfl⟩:=List.getElem_of_mem hu;exact⟨(i*10+0)*6+R[i].1,R[i],[],i,⟨rfl,.inl ⟨rfl,rfl⟩⟩,h6,rfl,hl,.inl ⟨by omega,List.getElem?_eq_getElem hi⟩⟩
theorem q81{B:Nat→List It}{R:List Vt}{u b:Vt}{k:Nat}(hu:InS B R u)(hf:Fitn u.2)(hB:(B u.1).length≤2000)(hs:Sub B u.1 u.2 k b)(h6:b.1<6)(hl:b.2.st.name.length≤9):InS B R b:=by
 obtain⟨c,b0,w0,cb,hd,Ha,hc,Hb,hb⟩:=hu;have hk:k<(B u.1).length:=(List.getElem?_eq_some_iff.1 hs.at_).1;by_cases q:Nam u.2∧∃h w,wgo (wd B u.2.st.mode h) u.2.st.mode ((B u.1).take k)=(w,true)
 ·obtain⟨hn,h0,w,hw⟩:=q
  have hy:b.2=u.2.app w:=qk3 hs.via ⟨h0,q9q B _ h0 _ _ w hn rfl hw⟩;have ha:∀h,∃h',w++(wd B u.2.st.mode h b.1).1 <+: (wd B u.2.st.mode h' u.1).1:=by
   intro h;refine⟨max h h0+1,?_⟩;have e:B u.1=(B u.1).take k++.ca b.1::(B u.1).drop (k+1):=by
    obtain⟨_,z⟩:=List.getElem?_eq_some_iff.1 hs.at_;have:=(List.take_append_drop k (B u.1)).symm;rw[List.drop_eq_getElem_cons hk,z]at this;exact this
   have e2:wd B u.2.st.mode (max h h0+1) u.1=cat (wgo (wd B u.2.st.mode (max h h0)) u.2.st.mode ((B u.1).take k)) (cat (wd B u.2.st.mode (max h h0) b.1) (wgo (wd B u.2.st.mode (max h h0)) u.2.st.mode ((B u.1).drop (k+1)))):=by
    show wgo _ _ (B u.1)=_;rw[congrArg (wgo (wd B u.2.st.mode (max h h0)) u.2.st.mode) e,qjj];rfl
   have m1:=qk0 (m:=u.2.st.mode) (fun n=>qrm B u.2.st.mode (Nat.le_max_right h h0) n) ((B u.1).take k);rw[hw]at m1;have m2:=m1.2 rfl;rw[e2,m2];show w++_ <+: w++_;refine(List.prefix_append_right_inj _).2 ?_;refine List.IsPrefix.trans (qrm B u.2.st.mode (Nat.le_max_left h h0) b.1).1 ?_;unfold cat;split
   ·exact List.prefix_append _ _
   ·exact List.prefix_refl _
  have hm:u.2.st.mode=b0.2.st.mode:=by rw[hd.1];rfl
  refine⟨_,b0,w0++w,cb,⟨by rw[hy,hd.1,qhp],.inr ?_⟩,h6,rfl,Hb,hb⟩;rcases hd.2 with ⟨rfl,e1⟩ | ⟨Hc,he⟩
  ·have e:u.2=b0.2:=hd.1
   rw[e,e1]at ha;exact⟨e▸hn,by simpa using ha⟩
  ·refine⟨Hc,fun h=>?_⟩
   obtain⟨h1,p1⟩:=ha h;obtain⟨h2,p2⟩:=he h1;rw[hm]at p1;refine⟨h2,List.IsPrefix.trans ?_ p2⟩;rw[List.append_assoc];exact(List.prefix_append_right_inj _).2 p1
 ·exact⟨_,b,[],_,⟨rfl,.inl ⟨rfl,rfl⟩⟩,h6,rfl,hl,.inr ⟨u.1,u.2,k,Ha,by omega,hf,q,hs,rfl⟩⟩
theorem qy3{B:Nat→List It}{R R':List Vt}{u:Vt}(h:InS B R u)(hp:R <+: R'):InS B R' u:=by
 obtain⟨c,b0,w0,cb,hd,ha,hc,Ha,hb⟩:=h;refine⟨c,b0,w0,cb,hd,ha,hc,Ha,hb.imp (fun q=>⟨q.1,?_⟩) id⟩;obtain⟨t,rfl⟩:=hp;rw[List.getElem?_append_left (List.getElem?_eq_some_iff.1 q.2).1];exact q.2
def qca(N:List (List UInt8))(x:List UInt8):Option Nat:=N.findIdx? (·== x)
def qhy(N:List (List UInt8)):Nat→Nat→List Pt→List It
 | _,_,[]=>[]
 | i,s+1,_::l=>qhy N (i+1) s l
 | i,0,p::l=>
   if p.kind=1 then .tx p.text::qhy N (i+1) 0 l
   else if p.kind=2 then .ho::qhy N (i+1) 0 l
   else if p.kind=3∨p.kind=4 then qhy N (i+1) (p.mate - i) l
   else if p.kind=6 then(match qca N p.text with
    | some n=>.ca n::qhy N (i+1) 0 l
    | none=>qhy N (i+1) 0 l)
   else qhy N (i+1) 0 l
theorem qqx(N:List (List UInt8)):∀(s:Nat) (l:List Pt) (i:Nat),qhy N i s l=qhy N (i+s) 0 (l.drop s)
 | 0,_,_=>rfl
 | s+1,[],i=>by rw[List.drop_nil];rfl
 | s+1,p::l,i=>by
   show qhy N (i+1) s l=_;rw[qqx N s l (i+1),List.drop_succ_cons,show i+1+s=i+(s+1) by omega]
theorem qlf(N:List (List UInt8)):∀(l:List Pt) (i s:Nat),(qhy N i s l).length≤l.length
 | [],_,_=>by cases ‹Nat›<;>exact Nat.le_refl _
 | p::l,i,s+1=>Nat.le_trans (qlf N l (i+1) s) (by simp)
 | p::l,i,0=>by
   have h0:=qlf N l (i+1) 0;have h1:=qlf N l (i+1) (p.mate - i);unfold qhy;split
   ·simp;omega
   split
   ·simp;omega
   split
   ·simp;omega
   split
   ·split<;>simp<;>omega
   ·simp;omega
def its(N:List (List UInt8))(P:List Pt):List It:=qhy N 0 0 P
def qdn(N:List (List UInt8))(P:List Pt)(i:Nat):List It:=qhy N i 0 (P.drop i)
theorem qhz{N:List (List UInt8)}{P:List Pt}{i:Nat}{p:Pt}(h:P[i]?=some p):qdn N P i=qhy N i 0 (p::P.drop (i+1)):=by
 unfold qdn;obtain⟨hi,e⟩:=List.getElem?_eq_some_iff.1 h;rw[List.drop_eq_getElem_cons hi,e]
theorem qi6{N:List (List UInt8)}{P:List Pt}{i:Nat}{p:Pt}(h:P[i]?=some p)(hk:p.kind=1):qdn N P i=.tx p.text::qdn N P (i+1):=by
 rw[qhz h];unfold qhy;rw[if_pos hk];rfl
theorem qi7{N:List (List UInt8)}{P:List Pt}{i:Nat}{p:Pt}(h:P[i]?=some p)(hk:p.kind=2):qdn N P i=.ho::qdn N P (i+1):=by
 rw[qhz h];unfold qhy;rw[if_neg (by omega),if_pos hk];rfl
theorem qko{N:List (List UInt8)}{P:List Pt}{i:Nat}{p:Pt}(h:P[i]?=some p)(hk:p.kind=3∨p.kind=4)(hm:i≤p.mate):qdn N P i=qdn N P (p.mate+1):=by
 rw[qhz h];unfold qhy;rw[if_neg (by omega),if_neg (by omega),if_pos hk,qqx,List.drop_drop,show i+1+(p.mate - i)=p.mate+1 by omega];rfl
theorem qgo{N:List (List UInt8)}{P:List Pt}{i:Nat}{p:Pt}{n:Nat}(h:P[i]?=some p)(hk:p.kind=6)(hn:qca N p.text=some n):qdn N P i=.ca n::qdn N P (i+1):=by
 rw[qhz h];unfold qhy;rw[if_neg (by omega),if_neg (by omega),if_neg (by omega),if_pos hk,hn];rfl
theorem qju{N:List (List UInt8)}{P:List Pt}{i:Nat}{p:Pt}(h:P[i]?=some p)(hk:p.kind=5∨(p.kind=6∧qca N p.text=none)):qdn N P i=qdn N P (i+1):=by
 rw[qhz h];unfold qhy;rcases hk with hk | ⟨hk,hn⟩
 ·rw[if_neg (by omega),if_neg (by omega),if_neg (by omega),if_neg (by omega)];rfl
 ·rw[if_neg (by omega),if_neg (by omega),if_neg (by omega),if_pos hk,hn];rfl
theorem qii{N:List (List UInt8)}{P:List Pt}{i:Nat}(h:P.length≤i):qdn N P i=[]:=by
 unfold qdn;rw[List.drop_eq_nil_of_le h];rfl
def Need(B:Nat→List It)(u v:Vt):Prop:=∀h y,fin B h u.1 u.2=some y→∃h' z,h'<h∧fin B h' v.1 v.2=some z
theorem Need.trans{B:Nat→List It}{u v t:Vt}(h:Need B u v)(k:Need B v t):Need B u t:=fun a y e=>by
 obtain⟨b,z,h1,h2⟩:=h a y e;obtain⟨c,x,h3,h4⟩:=k b z h2;exact⟨c,x,by omega,h4⟩
theorem Need.self{B:Nat→List It}{u:Vt}(h:Need B u u):∀y,¬Done B u.1 u.2 y:=by
 have key:∀n h' y,h'≤n→fin B h' u.1 u.2≠some y:=by
  intro n
  induction n with
  | zero=>intro h' y hn e;obtain⟨b,z,h1,_⟩:=h h' y e;omega
  | succ n ih=>intro h' y hn e;obtain⟨b,z,h1,h2⟩:=h h' y e;exact ih b z (by omega) h2
 rintro y ⟨a,e⟩;exact key a a y (Nat.le_refl _) e
theorem Need.not{B:Nat→List It}{u v:Vt}(h:Need B u v)(hv:∀y,¬Done B v.1 v.2 y):∀y,¬Done B u.1 u.2 y:=by
 rintro y ⟨a,e⟩;obtain⟨b,z,_,h2⟩:=h a y e;exact hv z ⟨b,h2⟩
theorem qw0{B:Nat→List It}{n m:Nat}{x z:Sx}{pre suf:List It}(hB:B n=pre++.ca m::suf)(hv:Via B pre x z):Need B (n,x) (m,z):=by
 intro h y e;cases h with
 | zero=>cases e
 | succ h=>
   have e:go (fin B h) (B n) x=some y:=e;rw[hB,qh0]at e;obtain⟨a,ha⟩:=hv;cases hp:go (fin B h) pre x with
   | none=>rw[hp]at e;cases e
   | some z'=>
     rw[hp]at e;have ez:z'=z:=qk3 ⟨h,hp⟩ ⟨a,ha⟩;subst ez
     have e:(match fin B h m z' with
      | some y=>go (fin B h) suf y
      | none=>none)=some y:=e
     cases hm:fin B h m z' with
     | none=>rw[hm]at e;cases e
     | some t=>exact⟨h,t,Nat.lt_succ_self h,hm⟩
structure Et where
 n:Nat
 x:Sx
 p:Sp
 ok:Bool
structure Cm(x:Sx):Prop where
 fit:Fitn x
 esc:qrf x
 par:∃q,ParX x q
theorem qnu:Cm Sx.start:=⟨q08,fun h=>by revert h;decide,_,ql3⟩
theorem qs1(l:List UInt8):∀x:Sx,Cm x→Cm (qaw x l):=by
 induction l with
 | nil=>intro x h;exact h
 | cons b l ih=>
   intro x h;obtain⟨q,hq⟩:=h.par;exact ih _ ⟨qxf b h.fit,qst x b h.fit.fit.ok,_,qot x q b h.fit.fit.ok hq⟩
theorem qxy{x:Sx}(h:Cm x):Cm x.behindHole:=by
 obtain⟨q,hq⟩:=h.par;exact⟨q32 h.fit,qpz x h.esc,_,qfj x q h.fit.fit.ok hq⟩
theorem qs0{x y:Sx}(hx:Cm x)(hy:Cm y)(h:x.view=y.view):x=y:=by
 obtain⟨p,hp⟩:=hx.par;obtain⟨q,hq⟩:=hy.par;exact q44 x y p q hx.fit.fit.ok hy.fit.fit.ok hx.esc hy.esc hp hq h
theorem zac{W:List Vt}(hW:∀u∈W,Cm u.2){n:Nat}{x:Sx}(hx:Cm x):((n:Int),x.view)∈W.map (fun u=>((u.1:Int),u.2.view))↔(n,x)∈W:=by
 constructor
 ·intro h
  obtain⟨u,hu,e⟩:=List.mem_map.1 h;injection e with e1 e2;have:u=(n,x):=Prod.ext (by omega) (qs0 (hW u hu) hx e2);exact this▸hu
 ·intro h;exact List.mem_map.2 ⟨_,h,rfl⟩
structure EtOk(B:Nat→List It)(R:List Vt)(r:Nat)(e:Et):Prop where
 cm:Cm e.x
 ins:InS B R (e.n,e.x)
 sp:SpOk r e.p
 yes:e.ok=true→∃y,Done B e.n e.x y∧ParX y e.p∧Cm y
 no:e.ok=false→∀y,¬Done B e.n e.x y
structure EInv(B:Nat→List It)(R:List Vt)(r:Nat)(E:List Et)(W:List Vt):Prop where
 each:∀e∈E,EtOk B R r e
 apart:(E.map (fun e=>(e.n,e.x))++W).Nodup
 wins:∀u∈W,InS B R u∧Cm u.2
theorem EInv.few{B:Nat→List It}{R:List Vt}{r:Nat}{E:List Et}{W:List Vt}(h:EInv B R r E W):E.length+W.length≤429926418000:=by
 have:=q82 h.apart (fun u hu=>by
  rcases List.mem_append.1 hu with q | q
  ·obtain⟨e,he,rfl⟩:=List.mem_map.1 q
   exact(h.each e he).ins
  ·exact(h.wins u q).1)
 rwa [List.length_append,List.length_map]at this
theorem SpOk.le{r r':Nat}{p:Sp}(h:SpOk r p)(hr:r≤r'):SpOk r' p:=⟨h.mode,h.tag,h.attr,h.inside,Nat.le_trans h.run hr⟩
theorem EtOk.le{B:Nat→List It}{R:List Vt}{r r':Nat}{e:Et}(h:EtOk B R r e)(hr:r≤r'):EtOk B R r' e:=⟨h.cm,h.ins,h.sp.le hr,h.yes,h.no⟩
end Go.Proofs.YtfkhljmiehdgmaaGreatDoor.Pl
namespace Go.Proofs.YtfkhljmiehdgmaaGreatDoor
open Go.RowKit
theorem qv1(n:Int)(v:Pl.Vw)(w:World) :
  Calls Tryz.prog 57 #[.slice none 0 0,qfa n v] w fun e w'=>e=.returned (.bool false)∧Below w.heap.size w w':=by
 have HB:Hid (Below w.heap.size w (w.alloc (.cells (qcf n v) 143))):=ba _;unfold qfa;unfold qcf at HB;go_enter Tryz.func57,Tryz.ntmps57
 go_wp2_with fail
 generalize w.alloc _=W0 at HB ⊢;go_loopw [5] (fun i wr=>i=.int .i64 0∧wr=W0) (fun _ _=>0)
 case atStart=>exact⟨rfl,rfl⟩
 case round=>
  obtain⟨rfl,rfl⟩:=hrel;go_wp2
  go_ret
  exact⟨rfl,HB.out⟩
structure PartsAt(w:World)(g B:Nat)(N:List ByteArray):Prop where
 head:∃c:Nat,w.cell? ⟨g,1,none⟩=some (.slice (some ⟨B,0,none⟩) N.length c)
 name:∀i x,N[i]?=some x→w.cell? ⟨B,i*2,none⟩=some (.string x)
def qtc(x:ByteArray)(N:List ByteArray)(r:Int):Prop:=(∃k:Nat,r=k∧N[k]?=some x∧∀j:Nat,j<k→¬N[j]?=some x)∨(r=-1∧∀j:Nat,¬N[j]?=some x)
theorem q5q(g B:Nat)(N:List ByteArray)(x:ByteArray)(w:World)(hN:N.length≤100000)(h:PartsAt w g B N) :
  Calls Tryz.prog 56 #[.pointer (some ⟨g,0,none⟩),.string x] w fun e w'=>(∃r:Int,e=.returned (.int .i64 r)∧qtc x N r)∧w'=w:=by
 obtain⟨c,hd⟩:=h.head;have HA:=(show Hid (PartsAt w g B N) from h);clear h;go_enter Tryz.func56,Tryz.ntmps56
 go_wp2_with fail
 go_loopw [5] (fun i wr=>∃k:Nat,k≤N.length∧i=.int .i64 k∧Hid (∀j:Nat,j<k→¬N[j]?=some x)∧wr=w) (fun i _=>N.length - (intOf i).toNat)
 case atStart=>exact⟨0,Nat.zero_le _,rfl,fun j hj=>absurd hj (Nat.not_lt_zero _),rfl⟩
 case round=>
  obtain⟨k,hk,rfl,HN,rfl⟩:=hrel;by_cases ha:k<N.length
  ·have hx:N[k]?=some N[k]:=List.getElem?_eq_getElem ha
   have q0:=HA.out.name k _ hx;have HX:=(show Hid (N[k]?=some N[k]) from hx);clear hx HA;generalize N[k]=X at q0 HX;by_cases e0:X=x
   ·have HF:Hid (qtc x N (k:Int)):=.inl ⟨k,rfl,by rw[HX.out,e0],HN.out⟩
    clear HX HN;subst e0;go_wp2_with fail
    go_ret
    exact⟨⟨_,rfl,HF.out⟩,rfl⟩
   ·have HD:Hid (∀j:Nat,j<k+1→¬N[j]?=some x):=by
     intro j hj q;by_cases Ha:j=k
     ·subst Ha;rw[HX.out]at q;exact e0 (Option.some.inj q)
     ·exact HN.out j (by omega) q
    have c0:(X.toList==x.toList)=false:=by
     rw[beq_eq_false_iff_ne,ByteArray.toList_eq,ByteArray.toList_eq];exact fun q=>e0 (ByteArray.ext (Array.toList_inj.1 q))
    clear HX HN e0;go_wp2
    go_roundw
    case rel=>exact⟨k+1,by omega,by go_num,HD,trivial⟩
    case measure=>simp[intOf];omega
  ·have hb:k=N.length:=by omega
   have HF:Hid (qtc x N (-1)):=.inr ⟨rfl,fun j q=>by
    have hj:j<N.length:=(List.getElem?_eq_some_iff.1 q).1;exact HN.out j (by omega) q⟩
   subst hb;clear HN HA;go_wp2
   go_ret
   exact⟨⟨_,rfl,HF.out⟩,rfl⟩
section
variable {w:World}{g:Nat}{t:TypeId}{fz:Nat×Nat}{u0 u1 u2 u3 u4 u5 u6 u7 u8 u9:Value}
theorem q7o(h:w.heap[g]?=some (.cells #[u0,u1,u2,u3,u4] t fz)):w.cell? ⟨g,0,none⟩=some u0∧w.cell? ⟨g,1,none⟩=some u1∧w.cell? ⟨g,2,none⟩=some u2∧w.cell? ⟨g,3,none⟩=some u3∧w.cell? ⟨g,4,none⟩=some u4:=
 ⟨qaa h 0 _ rfl,qaa h 1 _ rfl,qaa h 2 _ rfl,qaa h 3 _ rfl,qaa h 4 _ rfl⟩
theorem zap(h:w.heap[g]?=some (.cells #[u0,u1,u2,u3,u4] t (0,0))):w.frozen? ⟨g,0,none⟩=false∧w.frozen? ⟨g,1,none⟩=false∧w.frozen? ⟨g,2,none⟩=false∧w.frozen? ⟨g,3,none⟩=false∧w.frozen? ⟨g,4,none⟩=false:=
 ⟨frozen_of_row _ _ 0 _ _ h,frozen_of_row _ _ 1 _ _ h,frozen_of_row _ _ 2 _ _ h,frozen_of_row _ _ 3 _ _ h,frozen_of_row _ _ 4 _ _ h⟩
theorem qau(h:w.heap[g]?=some (.cells #[u0,u1,u2,u3,u4,u5] t fz)):w.cell? ⟨g,0,none⟩=some u0∧w.cell? ⟨g,1,none⟩=some u1∧w.cell? ⟨g,2,none⟩=some u2∧w.cell? ⟨g,3,none⟩=some u3∧w.cell? ⟨g,4,none⟩=some u4∧w.cell? ⟨g,5,none⟩=some u5:=
 ⟨qaa h 0 _ rfl,qaa h 1 _ rfl,qaa h 2 _ rfl,qaa h 3 _ rfl,qaa h 4 _ rfl,qaa h 5 _ rfl⟩
theorem qdx(h:w.heap[g]?=some (.cells #[u0,u1,u2,u3,u4,u5] t (0,0))):w.frozen? ⟨g,0,none⟩=false∧w.frozen? ⟨g,1,none⟩=false∧w.frozen? ⟨g,2,none⟩=false∧w.frozen? ⟨g,3,none⟩=false∧w.frozen? ⟨g,4,none⟩=false∧w.frozen? ⟨g,5,none⟩=false:=
 ⟨frozen_of_row _ _ 0 _ _ h,frozen_of_row _ _ 1 _ _ h,frozen_of_row _ _ 2 _ _ h,frozen_of_row _ _ 3 _ _ h,frozen_of_row _ _ 4 _ _ h,frozen_of_row _ _ 5 _ _ h⟩
theorem q4q(h:w.heap[g]?=some (.cells #[u0,u1,u2,u3,u4,u5,u6,u7,u8] t fz)):w.cell? ⟨g,0,none⟩=some u0∧w.cell? ⟨g,1,none⟩=some u1∧w.cell? ⟨g,2,none⟩=some u2∧w.cell? ⟨g,3,none⟩=some u3∧w.cell? ⟨g,4,none⟩=some u4∧w.cell? ⟨g,5,none⟩=some u5∧w.cell? ⟨g,6,none⟩=some u6∧w.cell? ⟨g,7,none⟩=some u7∧w.cell? ⟨g,8,none⟩=some u8:=
 ⟨qaa h 0 _ rfl,qaa h 1 _ rfl,qaa h 2 _ rfl,qaa h 3 _ rfl,qaa h 4 _ rfl,qaa h 5 _ rfl,qaa h 6 _ rfl,qaa h 7 _ rfl,qaa h 8 _ rfl⟩
theorem qb6(h:w.heap[g]?=some (.cells #[u0,u1,u2,u3,u4,u5,u6,u7,u8,u9] t fz)):w.cell? ⟨g,0,none⟩=some u0∧w.cell? ⟨g,1,none⟩=some u1∧w.cell? ⟨g,2,none⟩=some u2∧w.cell? ⟨g,3,none⟩=some u3∧w.cell? ⟨g,4,none⟩=some u4∧w.cell? ⟨g,5,none⟩=some u5∧w.cell? ⟨g,6,none⟩=some u6∧w.cell? ⟨g,7,none⟩=some u7∧w.cell? ⟨g,8,none⟩=some u8∧w.cell? ⟨g,9,none⟩=some u9:=
 ⟨qaa h 0 _ rfl,qaa h 1 _ rfl,qaa h 2 _ rfl,qaa h 3 _ rfl,qaa h 4 _ rfl,qaa h 5 _ rfl,qaa h 6 _ rfl,qaa h 7 _ rfl,qaa h 8 _ rfl,qaa h 9 _ rfl⟩
theorem qgd(h:w.heap[g]?=some (.cells #[u0,u1,u2,u3,u4,u5,u6,u7,u8,u9] t (0,0))):w.frozen? ⟨g,0,none⟩=false∧w.frozen? ⟨g,1,none⟩=false∧w.frozen? ⟨g,2,none⟩=false∧w.frozen? ⟨g,3,none⟩=false∧w.frozen? ⟨g,4,none⟩=false∧w.frozen? ⟨g,5,none⟩=false∧w.frozen? ⟨g,6,none⟩=false∧w.frozen? ⟨g,7,none⟩=false∧w.frozen? ⟨g,8,none⟩=false∧w.frozen? ⟨g,9,none⟩=false:=
 ⟨frozen_of_row _ _ 0 _ _ h,frozen_of_row _ _ 1 _ _ h,frozen_of_row _ _ 2 _ _ h,frozen_of_row _ _ 3 _ _ h,frozen_of_row _ _ 4 _ _ h,frozen_of_row _ _ 5 _ _ h,frozen_of_row _ _ 6 _ _ h,frozen_of_row _ _ 7 _ _ h,frozen_of_row _ _ 8 _ _ h,frozen_of_row _ _ 9 _ _ h⟩
end
structure Sp3(w0 w:World)(g:Nat)(p q:Pl.Sp):Prop where
 sp:w.heap[w0.heap.size]?=some (.cells (qag p) 94 (0,0))
 res:w.heap[w0.heap.size+1]?=some (.cells (qag ⟨0,[],[],[],[],0⟩) 94 (0,0))
 tt:w.heap[g]?=some (.cells (qag q) 94 (0,0))
 low:Below w0.heap.size w0 w
 gt:w0.heap.size+1<g
section
variable {w0 w w':World}{g:Nat}{p q q':Pl.Sp}{t:TypeId}{fz:Nat×Nat}{u0 u1 u2 u3 u4 u5:Value}
theorem Sp3.lt(h:Sp3 w0 w g p q):g<w.heap.size:=(Array.getElem?_eq_some_iff.1 h.tt).1
theorem Sp3.kept(h:Sp3 w0 w g p q)(hb:Below w.heap.size w w'):Sp3 w0 w' g p q:=by
 have:=h.lt;have:=h.gt;exact⟨(hb.block _ (by omega)).trans h.sp,(hb.block _ (by omega)).trans h.res,(hb.block _ (by omega)).trans h.tt,h.low.trans (hb.mono (by omega)),h.gt⟩
theorem Sp3.alloc(h:Sp3 w0 w g p q)(o:Obj):Sp3 w0 (w.alloc o) g p q:=h.kept ((Below.refl _ w).alloc (Nat.le_refl _) o)
theorem Sp3.drew(h:Sp3 w0 w g p q):Sp3 w0 w.drew g p q:=⟨h.sp,h.res,h.tt,h.low.drew,h.gt⟩
theorem Sp3.put(h:Sp3 w0 w g p q)(j:Nat)(v:Value)(e:(qag q).set! j v=qag q'):Sp3 w0 (w.setCell ⟨g,j,none⟩ v) g p q':=by
 have:=h.gt;refine⟨(heap_setCell_other _ _ _ _ (by show w0.heap.size≠g;omega)).trans h.sp,(heap_setCell_other _ _ _ _ (by show w0.heap.size+1≠g;omega)).trans h.res,?_,h.low.setCell (by show w0.heap.size≤g;omega) _,h.gt⟩;rw[←e];exact heap_setCell_same w g j _ _ _ h.tt
theorem Sp3.start(w0:World)(p q:Pl.Sp):Sp3 w0 (((w0.alloc (.cells (qag p) 94)).alloc (.cells (qag ⟨0,[],[],[],[],0⟩) 94)).alloc (.cells (qag q) 94)) (w0.heap.size+1+1) p q:=
 ⟨(heap_alloc_old _ _ (by simp;omega)).trans ((heap_alloc_old _ _ (by simp)).trans (heap_alloc_new w0 _)),(heap_alloc_old _ _ (by simp)).trans (qal _ _ _ (by simp)),qal _ _ _ (by simp),((ba _).alloc (by simp) _).alloc (by simp;omega) _,by omega⟩
end
structure Sp2(w0 w:World)(p:Pl.Sp):Prop where
 sp:w.heap[w0.heap.size]?=some (.cells (qag p) 94 (0,0))
 res:w.heap[w0.heap.size+1]?=some (.cells (qag ⟨0,[],[],[],[],0⟩) 94 (0,0))
 low:Below w0.heap.size w0 w
section
variable {w0 w w':World}{p q:Pl.Sp}
theorem Sp2.lt(h:Sp2 w0 w p):w0.heap.size+1<w.heap.size:=(lta h.res)
theorem Sp2.kept(h:Sp2 w0 w p)(hb:Below w.heap.size w w'):Sp2 w0 w' p:=by
 have:=h.lt;exact⟨(hb.block _ (by omega)).trans h.sp,(hb.block _ (by omega)).trans h.res,h.low.trans (hb.mono (by omega))⟩
theorem Sp2.put(h:Sp2 w0 w p)(j:Nat)(v:Value)(e:(qag p).set! j v=qag q):Sp2 w0 (w.setCell ⟨w0.heap.size,j,none⟩ v) q:=by
 refine⟨?_,(heap_setCell_other _ _ _ _ (by show w0.heap.size+1≠w0.heap.size;omega)).trans h.res,h.low.setCell (Nat.le_refl _) _⟩;rw[←e];exact heap_setCell_same w _ j _ _ _ h.sp
theorem Sp2.start(w0:World)(p:Pl.Sp):Sp2 w0 ((w0.alloc (.cells (qag p) 94)).alloc (.cells (qag ⟨0,[],[],[],[],0⟩) 94)) p:=
 ⟨(heap_alloc_old _ _ (by simp)).trans (heap_alloc_new w0 _),qal _ _ _ (by simp),(ba _).alloc (by simp) _⟩
theorem Sp2.more(h:Sp2 w0 w p)(q:Pl.Sp):Sp3 w0 (w.alloc (.cells (qag q) 94)) w.heap.size p q:=by
 have:=h.lt;exact⟨(heap_alloc_old _ _ (by omega)).trans h.sp,(heap_alloc_old _ _ (by omega)).trans h.res,heap_alloc_new _ _,h.low.alloc (by omega) _,by omega⟩
end
theorem qia(w:World) :
  Calls Tryz.prog 34 #[] w fun e w'=>e=.returned (.agg #[.int .i64 1,.string ⟨#[]⟩,.string ⟨#[]⟩,.string ⟨#[]⟩,.string ⟨#[]⟩,.int .i64 0])∧w.alloc (.cells #[.int .i64 1,.string ⟨#[]⟩,.string ⟨#[]⟩,.string ⟨#[]⟩,.string ⟨#[]⟩,.int .i64 0] 94)=w':=by
 go_enter Tryz.func34,Tryz.ntmps34
 go_wp2
 refine qb4 Tryz.results34 w.heap.size _ _ Tryz.underlying94 rfl rfl (heap_alloc_new _ _) (by kernel_rfl) rfl ?_;exact⟨rfl,rfl⟩
theorem qyz(m:Int)(l:List UInt8)(x:UInt8)(w:World)(hl:l.length≤2000000000000000000) :
  Calls Tryz.prog 169 #[.int .i64 m,.string (ByteArray.mk l.toArray++ByteArray.mk #[x])] w fun e w'=>e=.returned (.string ⟨(Pl.kept m (l++[x])).toArray⟩)∧w=w':=by
 have h:=q6b m (ByteArray.mk l.toArray++ByteArray.mk #[x]) w (by rw[ByteArray.size_append];simp[ByteArray.size];omega);rw[show (ByteArray.mk l.toArray++ByteArray.mk #[x]).data.toList=l++[x] by simp]at h;exact h
theorem q5e(l:List UInt8)(x:UInt8)(w:World)(hl:l.length≤2000000000000000000) :
  Calls Tryz.prog 168 #[.string (ByteArray.mk l.toArray++ByteArray.mk #[x])] w fun e w'=>e=.returned (.string ⟨(Pl.qcb (l++[x])).toArray⟩)∧w=w':=by
 have h:=q5f (ByteArray.mk l.toArray++ByteArray.mk #[x]) w (by rw[ByteArray.size_append];simp[ByteArray.size];omega);rw[show (ByteArray.mk l.toArray++ByteArray.mk #[x]).data.toList=l++[x] by simp]at h;exact h
theorem qie(x:UInt8)(w:World)(g:Nat)(hg:w.heap.size=g):(convert 82 9 (.slice (some ⟨g,0,none⟩) 1 1)).run Tryz.prog (w.alloc (.cells #[.int .u8 x.toNat] 5))=.ok (.string ⟨#[x]⟩) (w.alloc (.cells #[.int .u8 x.toNat] 5)):=by
 subst hg;refine run_convert_bytes_back _ 82 9 5 ⟨w.heap.size,0,none⟩ 1 [x] Tryz.underlying82 Tryz.underlying5 Tryz.underlying9 ?_;intro j hj
 match j,hj with
 | 0,_=>simp[Addr.add]
theorem qyq(x:UInt8)(w:World)(g:Nat)(hg:w.heap.size=g):(convert 82 9 (.slice (some ⟨g,0,none⟩) 1 1)).run Tryz.prog (w.alloc (.cells #[.int .u8 x.toNat] 5)).drew=.ok (.string ⟨#[x]⟩) (w.alloc (.cells #[.int .u8 x.toNat] 5)).drew:=by
 subst hg;refine run_convert_bytes_back _ 82 9 5 ⟨w.heap.size,0,none⟩ 1 [x] Tryz.underlying82 Tryz.underlying5 Tryz.underlying9 ?_;intro j hj
 match j,hj with
 | 0,_=>simp[Addr.add]
theorem qup(l:List UInt8)(x:UInt8)(w:World)(hl:l.length≤1000) :
  Calls Tryz.prog 212 #[.string (ByteArray.mk l.toArray++ByteArray.mk #[x])] w fun e w'=>e=.returned (.string ⟨(Pl.qfn (l++[x])).toArray⟩)∧w=w':=by
 have h:=q1d (ByteArray.mk l.toArray++ByteArray.mk #[x]) w (by rw[ByteArray.size_append];simp[ByteArray.size];omega);rw[show (ByteArray.mk l.toArray++ByteArray.mk #[x]).data.toList=l++[x] by simp]at h;exact h
def q5j(l:List (List UInt8×Int)):List Value:=l.flatMap fun r=>[.string ⟨r.1.toArray⟩,.int .i64 r.2]
def qre(v:Value)(w:World)(l:List (List UInt8×Int)):Prop:=
 (l=[]∧v=.slice none 0 0)∨∃g,v=.slice (some ⟨g,0,none⟩) l.length l.length∧∀(k:Nat) (r:List UInt8×Int),l[k]?=some r→w.cell? ⟨g,k*2,none⟩=some (.string ⟨r.1.toArray⟩)∧w.cell? ⟨g,k*2+1,none⟩=some (.int .i64 r.2)
theorem qqf(w:World)(l:List (List UInt8×Int))(cs:Array Value)(t:TypeId)(g n:Nat)(hg:w.heap.size=g)(hn:l.length=n)(hc:cs.toList=q5j l):qre (.slice (some ⟨g,0,none⟩) n n) (w.alloc (.cells cs t)) l:=by
 subst hg;subst hn;refine .inr ⟨_,rfl,fun k r hk=>?_⟩;obtain⟨a,b⟩:=q9b (fun r:List UInt8×Int=>Value.string ⟨r.1.toArray⟩) (fun r=>.int .i64 r.2) l k r hk;have h:=qaa (heap_alloc_new w (.cells cs t));rw[hc]at h;rw[Nat.mul_comm k 2];exact⟨h _ _ a,h _ _ b⟩
theorem qmy(m:Nat)(hm:m≤33)(w:World) :
  Calls Tryz.prog 210 #[.int .i64 m] w fun e w'=>∃v,e=.returned v∧qre v w' (Pl.qjr m)∧Below w.heap.size w w':=by
 by_cases h0:1≤m∧m≤18
 ·rcases(show m=1∨m=2∨m=3∨m=4∨m=5∨m=6∨m=7∨m=8∨m=9∨m=10∨m=11∨m=12∨m=13∨m=14∨m=15∨m=16∨m=17∨m=18 by omega)with rfl | rfl | rfl | rfl | rfl | rfl | rfl | rfl | rfl | rfl | rfl | rfl | rfl | rfl | rfl | rfl | rfl | rfl
  all_goals
   clear hm h0;go_enter Tryz.func210,Tryz.ntmps210
   go_wp2
   go_ret
   exact⟨_,rfl,qqf w (Pl.qjr _) _ _ _ _ rfl rfl rfl,ba _⟩
 ·have e:Pl.qjr m=[]:=by
   have:∀m,m≤33→¬(1≤m∧m≤18)→Pl.qjr m=[]:=by decide
   exact this m hm h0
  rw[e];obtain⟨n1,n2,n3,n4,n5,n6,n7,n8,n9,n10,n11,n12,n13,n14,n15,n16,n17,n18⟩:((m:Int)==1)=false∧((m:Int)==2)=false∧((m:Int)==3)=false∧((m:Int)==4)=false∧((m:Int)==5)=false∧((m:Int)==6)=false∧((m:Int)==7)=false∧((m:Int)==8)=false∧((m:Int)==9)=false∧((m:Int)==10)=false∧((m:Int)==11)=false∧((m:Int)==12)=false∧((m:Int)==13)=false∧((m:Int)==14)=false∧((m:Int)==15)=false∧((m:Int)==16)=false∧((m:Int)==17)=false∧((m:Int)==18)=false:=by
   simp only[beq_eq_false_iff_ne];omega
  clear h0;go_enter Tryz.func210,Tryz.ntmps210
  go_wp2
  go_ret
  exact⟨_,rfl,.inl ⟨rfl,rfl⟩,Below.refl _ _⟩
theorem qsl(m:Nat)(ha:20≤m)(hm:m≤33)(w:World) :
  Calls Tryz.prog 211 #[.int .i64 m] w fun e w'=>∃v,e=.returned v∧qre v w' (Pl.qlg m)∧Below w.heap.size w w':=by
 rcases(show m=20∨m=21∨m=22∨m=23∨m=24∨m=25∨m=26∨m=27∨m=28∨m=29∨m=30∨m=31∨m=32∨m=33 by omega)with rfl | rfl | rfl | rfl | rfl | rfl | rfl | rfl | rfl | rfl | rfl | rfl | rfl | rfl
 all_goals
  clear hm ha;go_enter Tryz.func211,Tryz.ntmps211
  go_wp2
  go_ret
  exact⟨_,rfl,qqf w (Pl.qlg _) _ _ _ _ rfl rfl rfl,ba _⟩
end Go.Proofs.YtfkhljmiehdgmaaGreatDoor
