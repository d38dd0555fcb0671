/-
  Steps of the proof.
-/
import Derived.Test.YtfkhljmiehdgmaaGreatDoorCuAG
set_option maxRecDepth 100000
set_option maxHeartbeats 40000000
namespace Go.Proofs.YtfkhljmiehdgmaaGreatDoor
open Go.RowKit Go.Proofs.Tryz Pl
namespace Pl
variable{S:List Src}{s:Sr}{e:En}
structure Inv(S:List Src)(s:Sr):Prop where
 ends:EndsOk S.length s.ends
 key:∀p∈s.nums,SxFit p.1.2/\p.1.1<S.length
 one:ql6 s.nums
 sub:∀p∈s.nums,p.1=(0,Sx.start)\/qa9 s.ends p.1≠Option.none
 zero:∀p∈s.nums,p.2=0->p.1.1=0
 vis:s.vis.length=s.nums.length
structure Gv(s s':Sr):Prop where
 has:∀e,qa9 s.ends e≠Option.none->qa9 s'.ends e≠Option.none
 nums:s.nums.length<=s'.nums.length
 vis:∀(i:Nat) (u:Nat×List Int),s.vis[i]?=some u->∃u',s'.vis[i]?=some u'/\u'.1=u.1/\u'.2.length=u.2.length
theorem Gv.refl(s:Sr):Gv s s:=⟨fun _ h=>h,yg _,fun _ u h=>⟨u,h,rfl,rfl⟩⟩
theorem Gv.trans{a b c:Sr}(h:Gv a b)(k:Gv b c):Gv a c:=
 ⟨fun e q=>k.has e (h.has e q),yh h.nums k.nums,fun i u q=>by
  obtain⟨u1,e1,e2,e3⟩:=h.vis i u q;obtain⟨u2,f1,f2,f3⟩:=k.vis i u1 e1;exact⟨u2,f1,f2.trans e2,f3.trans e3⟩⟩
theorem Inv.mark(h:Inv S s)(v a:Nat)(m:Int):Inv S (s.mark v a m):=⟨h.ends,h.key,h.one,h.sub,h.zero,by unfold Sr.mark;simp[h.vis]⟩
theorem Gv.mark(s:Sr)(v a:Nat)(m:Int):Gv s (s.mark v a m):=
 ⟨fun _ h=>h,yg _,fun i u y=>by
  show ∃u',(s.vis.modify v fun x=>(x.1,x.2.set a m))[i]?=some u'/\_;rw[List.getElem?_modify,y];by_cases h:v=i
  ·exact⟨(u.1,u.2.set a m),by simp[h],rfl,by simp⟩
  ·exact⟨u,by simp[h],rfl,rfl⟩⟩
theorem Inv.wrong(h:Inv S s)(S':List Src)(i:Nat)(kind:Int)(pos:Nat):Inv S (s.wrong S' i kind pos):=⟨h.ends,h.key,h.one,h.sub,h.zero,h.vis⟩
theorem Gv.wrong(s:Sr)(S':List Src)(i:Nat)(kind:Int)(pos:Nat):Gv s (s.wrong S' i kind pos):=⟨fun _ h=>h,yg _,fun _ u h=>⟨u,h,rfl,rfl⟩⟩
theorem Inv.grew{s':Sr}(h:Inv S s)(g:Grew S.length s s'):Inv S s'/\Gv s s':=
 ⟨⟨g.ok,by rw[g.nums];exact h.key,by rw[g.nums];exact h.one,by rw[g.nums];exact fun p y=>(h.sub p y).imp_right (g.has _),by rw[g.nums];exact h.zero,by rw[g.vis,g.nums];exact h.vis⟩,
  ⟨g.has,by rw[g.nums];exact yg _,by rw[g.vis];exact fun _ u h=>⟨u,h,rfl,rfl⟩⟩⟩
theorem q20{α:Type}[DecidableEq α]:∀(l m:List α),l.Nodup->(∀x∈l,x∈m)->l.length<=m.length
 |[],m,_,_=>yH _
 |x::l,m,h,hs=>by
   obtain⟨z,D⟩:=List.nodup_cons.1 h;have I:=hs x (by simp);have:=q20 l (m.erase x) D (fun y J=>(List.mem_erase_of_ne (fun e=>z (by rw[<-e];exact J))).2 (hs y (yX _ J)));rw[List.length_erase_of_mem I]at this;have O:=List.length_pos_of_mem I;simp only[yK];omega
theorem qmt{α:Type}:∀ {l:List (En×α)},ql6 l->(l.map (·.1)).Nodup
 |[],_=>List.nodup_nil
 |p::l,h=>by
   have y:ql6 l:=fun i j a b z D e=>by
    have:=h (i+1) (j+1) a b (by simpa using z) (by simpa using D) e;omega
   rw[List.map_cons,List.nodup_cons];refine⟨fun I=>?_,qmt y⟩;obtain⟨q,J,e⟩:=xq.1 I;obtain⟨i,z⟩:=xj J;have:=h 0 (i+1) p q rfl (by simpa using z) e.symm;omega
theorem q9l{α:Type}{l:List (En×α)}(h:qa9 l e≠Option.none):e∈l.map (·.1):=by
 cases y:qa9 l e with
 |none=>exact absurd y h
 |some v=>exact xq.2 ⟨_,qg3 y,rfl⟩
theorem Inv.few(h:Inv S s):s.nums.length<=s.ends.length+1:=by
 have:=q20 (s.nums.map (·.1)) ((0,Sx.start)::s.ends.map (·.1)) (qmt h.one) (fun x y=>by
  obtain⟨p,z,rfl⟩:=xq.1 y;rcases h.sub p z with e|e
  ·rw[e];simp
  ·exact yX _ (q9l e))
 simpa using this
structure Pre(S:List Src)(s:Sr)(e:En):Prop where
 inv:Inv S s
 new:qa9 s.nums e=Option.none
 src:(e=(0,Sx.start)/\s.nums=[])\/(qa9 s.ends e≠Option.none/\1<=e.1/\s.nums≠[])
 fit:SxFit e.2
 lt:e.1<S.length
theorem Pre.begun(h:Pre S s e):Inv S (begun S s e)/\Gv s (begun S s e)/\(Pl.begun S s e).nums.length=s.nums.length+1:=by
 have y:qbi s.nums e s.vis.length=s.nums++[(e,s.vis.length)]:=qfg h.new _;refine⟨⟨h.inv.ends,?_,?_,?_,?_,?_⟩,⟨fun _ q=>q,?_,?_⟩,?_⟩
 ·intro p z
  rcases qnp z with rfl|z
  ·exact⟨h.fit,h.lt⟩
  ·exact h.inv.key p z
 ·exact qqz h.inv.one _ _
 ·intro p z
  rcases qnp z with rfl|z
  ·rcases h.src with q | q
   ·exact .inl q.1
   ·exact .inr q.1
  ·exact h.inv.sub p z
 ·intro p z D
  rcases qnp z with rfl|z
  ·rcases h.src with q | q
   ·rw[q.1]
   ·exfalso
    have D:s.vis.length=0:=D;rw[h.inv.vis]at D;exact q.2.2 (List.length_eq_zero_iff.1 D)
  ·exact h.inv.zero p z D
 ·show (s.vis++[_]).length=(qbi _ _ _).length
  rw[y];simp[h.inv.vis]
 ·show s.nums.length<=(qbi _ _ _).length
  rw[y];simp
 ·intro i u I
  refine⟨u,?_,rfl,rfl⟩;show(s.vis++[_])[i]?=some u;rw[yr (yb.1 I).1];exact I
 ·show (qbi _ _ _).length=_
  rw[y];simp
def NmOk(S:List Src)(nm:Sr->zU->Sx->Sr×Nat×Sx)(m:Nat):Prop:=∀s t x,Inv S s->m<=s.nums.length->SxFit x->Inv S (nm s t x).1/\Gv s (nm s t x).1/\qv7 (nm s t x).2.2
theorem zhh{nm:Sr->zU->Sx->Sr×Nat×Sx}{m:Nat}(z:NmOk S nm m)(i v:Nat)(P:List Pt):∀(n a:Nat) (s:Sr) (x:Sx) (B:List (Sx×Nat)),Inv S s->m<=s.nums.length->SxFit x->(∀b∈B,SxFit b.1)->Inv S (goV nm S i v P n a s x B)/\Gv s (goV nm S i v P n a s x B):=by
 intro n
 induction n with
 |zero=>intro a s x B h _ _ _;exact⟨h,Gv.refl s⟩
 |succ n ih=>
   intro a s x B h I J O;unfold goV;cases T:P[a]? with
   |none=>exact⟨h,Gv.refl s⟩
   |some p=>
     simp only;split
     ·split
      ·exact⟨h.wrong _ _ _ _,Gv.wrong _ _ _ _ _⟩
      ·exact ih _ s _ B h I (qku _ _ J) O
     ·split
      ·split
       ·exact⟨h.wrong _ _ _ _,Gv.wrong _ _ _ _ _⟩
       ·obtain⟨U,V⟩:=ih (a+1) (s.mark v a x.hole.1) x.behindHole B (h.mark _ _ _) I (qmy J) O
        exact⟨U,(Gv.mark s v a _).trans V⟩
      ·split
       ·exact ih _ s x _ h I J (fun b X=>by
         rcases yn.1 X with X|X
         ·exact O b X
         ·simp at X;subst X;exact J)
       ·split
        ·split
         ·exact⟨h,Gv.refl s⟩
         ·split
          ·exact⟨h.wrong _ _ _ _,Gv.wrong _ _ _ _ _⟩
          ·exact ih _ s x _ h I J (fun b X=>O b ((List.dropLast_sublist _).subset X))
        ·split
         ·obtain⟨U,V,Y⟩:=z s p.text x h I J
          have g1:=U.mark v a ((nm s p.text x).2.1:Nat);have g2:=V.trans (Gv.mark (nm s p.text x).1 v a ((nm s p.text x).2.1:Nat));have y:m<=((nm s p.text x).1.mark v a ((nm s p.text x).2.1:Nat)).nums.length:=yh I V.nums;split
          ·exact⟨g1,g2⟩
          ·split
           ·rename_i D
            obtain⟨k1,k2⟩:=ih (a+1) _ _ B g1 y (qq9 Y (by rw[D];simp)) O;exact⟨k1,g2.trans k2⟩
           ·split
            ·exact⟨g1,g2⟩
            ·rename_i b X
             obtain⟨k1,k2⟩:=ih b.2 _ b.1 B g1 y (O b (List.mem_of_getLast? X)) O;exact⟨k1,g2.trans k2⟩
         ·exact ih _ s x B h I J O
theorem zdp(S:List Src)(k:Nat)(s:Sr)(n:zU)(x:Sx)(y:qaj S n≠0):qa9 (behV S (k+1) s n x).1.ends (qaj S n,x)≠Option.none\/(behV S (k+1) s n x).1.fault=qtd:=by
 unfold behV;rw[if_neg y];cases z:qa9 s.ends (qaj S n,x)with
 |some e=>exact .inl (by simp[z])
 |none=>
   simp only;split
   ·exact .inr rfl
   ·refine .inl ?_
    show qa9 (qbi _ _ _) _≠_;rw[qg2,if_pos rfl];simp
theorem q8n{n:zU}{x:Sx}(h:Inv S s)(z:1<=s.nums.length)(D:SxFit x)(I:qaj S n≠0)(J:(behV S 257 s n x).1.fault.code=0)(O:qhc (behV S 257 s n x).1 (qaj S n,x)=0):Pre S (behV S 257 s n x).1 (qaj S n,x):=by
 obtain⟨g1,g2⟩:=qke S 257 0 (by omega) s n x h.ends (yH _) D;obtain⟨i1,i2⟩:=h.grew g1;have y:=qfh S n I;refine⟨i1,?_,.inr ⟨?_,y.1,fun e=>?_⟩,D,y.2⟩
 ·cases T:qa9 (behV S 257 s n x).1.nums (qaj S n,x)with
  |none=>rfl
  |some v=>
    exfalso;have U:v=0:=by
     unfold qhc at O;rw[T]at O;exact O
    have:=i1.zero _ (qg3 T) U;simp only at this;omega
 ·rcases zdp S 256 s n x I with q | q
  ·exact q
  ·rw[q]at J;cases J
 ·rw[g1.nums]at e;rw[e]at z;simp at z
theorem qo7(S:List Src):∀(k:Nat) (s:Sr) (e:En),Pre S s e->258<=s.nums.length+k->Inv S (qev S k s e)/\Gv s (qev S k s e):=by
 intro k
 induction k with
 |zero=>
   intro s e h z;have:=h.inv.few;have:=h.inv.ends.few;omega
 |succ k ih=>
   intro s e h z;rw[qug];obtain⟨b1,b2,b3⟩:=h.begun;have y:NmOk S (nmV S k) (s.nums.length+1):=by
    intro s' t x D I J;obtain⟨g1,g2⟩:=qke S 257 0 (by omega) s' t x D.ends (yH _) J;obtain⟨i1,i2⟩:=D.grew g1;unfold nmV;simp only;split
    ·exact⟨i1,i2,g2⟩
    ·rename_i O
     split
     ·rename_i T
      have U:=q8n D (by omega) J (fun q=>O (.inl q)) (by cases V:(behV S 257 s' t x).1.fault.code with|zero=>rfl|succ n=>exact absurd (.inr (by rw[V];simp)) O) T;obtain⟨j1,j2⟩:=ih _ _ U (by rw[g1.nums];omega);exact⟨j1,i2.trans j2,g2⟩
     ·exact⟨i1,i2,g2⟩
   obtain⟨k1,k2⟩:=zhh y e.1 s.vis.length (qah S e.1) ((qah S e.1).length+1) 0 (Pl.begun S s e) e.2 [] b1 (by omega) h.fit (fun b X=>by cases X);exact⟨k1,b2.trans k2⟩
theorem zhb(S:List Src)(k m:Nat)(y:258<=m+k)(z:1<=m):NmOk S (nmV S k) m:=by
 intro s' t x D I J;obtain⟨g1,g2⟩:=qke S 257 0 (by omega) s' t x D.ends (yH _) J;obtain⟨i1,i2⟩:=D.grew g1;unfold nmV;simp only;split
 ·exact⟨i1,i2,g2⟩
 ·rename_i O
  split
  ·rename_i T
   have U:=q8n D (by omega) J (fun q=>O (.inl q)) (by cases V:(behV S 257 s' t x).1.fault.code with|zero=>rfl|succ n=>exact absurd (.inr (by rw[V];simp)) O) T;obtain⟨j1,j2⟩:=qo7 S k _ _ U (by rw[g1.nums];omega);exact⟨j1,i2.trans j2,g2⟩
  ·exact⟨i1,i2,g2⟩
end Pl
theorem zaq(w:World):zC 62 #[] w fun e w'=>e=.returned (qar Sx.start)/\w.alloc (.cells (qaf Sx.start) 162)=w':=by
 go_enter func62,ntmps62
 go_wp2
 refine qb8 results62 w.heap.size _ _ underlying162 rfl rfl (xF _ _) (by kernel_rfl) rfl ?_;exact⟨rfl,rfl⟩
namespace Pl
theorem qww:∀(T:zU) (x:Sx) (j:Nat) (h:j<T.length),qcy x (T.take j)=Option.none->qcd (qax x (T.take j)).st.kind (qax x (T.take j)).st.mode (qax x (T.take j)).ma.far T[j]=true->qcy x T=some j
 |[],x,j,h,_,_=>by simp at h
 |b::l,x,0,h,_,hm=>by
   have hm:qcd x.st.kind x.st.mode x.ma.far b=true:=hm;unfold qcy;rw[if_pos hm]
 |b::l,x,j+1,h,h0,hm=>by
   rw[xb]at h0;unfold qcy at h0 |-;split at h0
   ·cases h0
   ·rename_i y
    rw[if_neg y];rw[Option.map_eq_none_iff]at h0;rw[qww l (x.behind b) j (by simpa using h) h0 hm];rfl
theorem qwv:∀(T:zU) (x:Sx) (j:Nat) (h:j<T.length),qcy x (T.take j)=Option.none->qcd (qax x (T.take j)).st.kind (qax x (T.take j)).st.mode (qax x (T.take j)).ma.far T[j]=false->qcy x (T.take (j+1))=Option.none
 |[],x,j,h,_,_=>by simp at h
 |b::l,x,0,h,_,hm=>by
   have hm:qcd x.st.kind x.st.mode x.ma.far b=false:=hm;rw[xb];unfold qcy;rw[hm,List.take_zero];rfl
 |b::l,x,j+1,h,h0,hm=>by
   rw[xb]at h0 |-;unfold qcy at h0 |-;split at h0
   ·cases h0
   ·rename_i y
    rw[if_neg y];rw[Option.map_eq_none_iff]at h0 |-;exact qwv l (x.behind b) j (by simpa using h) h0 hm
end Pl
def msW(w:World)(x:Sx)(b:UInt8):World:=if b=58 then(w.alloc (.cells (qaf x) 162)).alloc (.cells (qaf x) 162)else w.alloc (.cells (qaf x) 162)
theorem qjx(x:Sx)(b:UInt8)(w:World) :
  zC 106 #[qar x,zJ b.toNat] w fun e w'=>e=.returned (.bool (qcd x.st.kind x.st.mode x.ma.far b))/\msW w x b=w':=by
 unfold qcd;by_cases D:b=58
 ·subst D
  have I:=fun w=>qkt x w;have J:msW w x 58=(w.alloc (.cells (qaf x) 162)).alloc (.cells (qaf x) 162):=if_pos rfl;rw[J];by_cases O:qb4 x.st.kind x.st.mode=true
  ·rw[O]at I |-
   unfold qar qaf bs at I |-;have T:=zH I;clear I O J;go_enter func106,ntmps106
   go_wp2_with (go_at_call 153;refine(T.out _).mono ?_;rintro e w' ⟨rfl,rfl⟩)
   go_ret
   exact⟨rfl,rfl⟩
  ·have O:=ye.2 O
   rw[O]at I |-;unfold qar qaf bs at I |-;have T:=zH I;clear I O J;go_enter func106,ntmps106
   go_wp2_with (go_at_call 153;refine(T.out _).mono ?_;rintro e w' ⟨rfl,rfl⟩)
   go_ret
   exact⟨rfl,rfl⟩
 ·have J:msW w x b=w.alloc (.cells (qaf x) 162):=if_neg D
  have y:(b==58)=false:=by rw[yf];exact D
  have z:((b.toNat:Int)==58)=false:=(qil b 58 (by omega)).trans y;rw[J,y,Bool.false_and];unfold qar qaf bs;clear J D y;go_enter func106,ntmps106
  go_wp2
  go_ret
  exact⟨rfl,rfl⟩
theorem qyn(b:UInt8)(w:World)(h:among b qhz=true) :
  zC 130 #[.string ⟨#[47,63,35,58]⟩,zJ b.toNat] w fun e w'=>∃x:Int,0<=x/\e=.returned (zI x)/\w=w':=
 qb7 b _ qhz w rfl h
theorem qre(b:UInt8)(w:World)(h:among b qhz=false) :
  zC 130 #[.string ⟨#[47,63,35,58]⟩,zJ b.toNat] w (zQ (zI (-1)) w):=
 qci b _ qhz w rfl h
theorem qqs(w:World)(x:Sx)(b:UInt8):zW w (msW w x b):=by
 unfold msW;split
 ·exact(zB _).alloc (by simp) _
 ·exact zB _
theorem q1r(x:Sx)(b:UInt8)(w:World) :
  zC 184 #[qar x,zJ b.toNat] w (zR (zI (qdt x.st.kind x.st.mode x.ma.far b)) w):=by
 have J:=fun w=>qjx x b w;have y:=fun w=>qqs w x b;have O:zW w (msW (w.alloc (.cells (qaf x) 162)) x b):=(zB _).trans ((y _).mono (by simp));have z:SxAt (msW (w.alloc (.cells (qaf x) 162)) x b) w.heap.size x:=(qkk w x _).kept (y _) (by simp);have q9:=z.far;clear z y;unfold qdt;by_cases T:qcd x.st.kind x.st.mode x.ma.far b=true
 ·rw[if_pos T]
  rw[T]at J;generalize U:msW (w.alloc (.cells (qaf x) 162)) x b=W at O q9;have J:=J (w.alloc (.cells (qaf x) 162));rw[U]at J;unfold qar qaf bs at J |-;have V:=zH J;clear J T U;go_enter func184,ntmps184
  go_wp2_with (go_at_call 106;refine(xQ V.out) ?_;rintro e w' ⟨rfl,rfl⟩)
  go_ret
  exact⟨rfl,O⟩
 ·rw[if_neg T]
  rw[ye.2 T]at J;generalize U:msW (w.alloc (.cells (qaf x) 162)) x b=W at O q9;have J:=J (w.alloc (.cells (qaf x) 162));rw[U]at J;unfold qar qaf bs at J |-;have V:=zH J;clear J T U;by_cases X:among b qhz=true
  ·rw[if_pos X]
   go_enter func184,ntmps184
   go_wp2_with (first|(go_at_call 106;refine(xQ V.out) ?_;rintro e w' ⟨rfl,rfl⟩)|(go_at_call 130;refine(qyn b _ X).mono ?_;rintro e w' ⟨x',I,rfl,rfl⟩))
   go_ret
   exact⟨rfl,O⟩
  ·rw[if_neg X]
   have X:=ye.2 X;by_cases Y:x.ma.far=0
   ·rw[if_pos Y]
    have D:(x.ma.far==0)=true:=by rw[Y];rfl
    clear Y;go_enter func184,ntmps184
    go_wp2_with (first|(go_at_call 106;refine(xQ V.out) ?_;rintro e w' ⟨rfl,rfl⟩)|(go_at_call 130;refine(qre b _ X).mono ?_;rintro e w' ⟨rfl,rfl⟩))
    go_ret
    exact⟨rfl,O⟩
   ·rw[if_neg Y]
    have D:(x.ma.far==0)=false:=by rw[yf];exact Y
    clear Y;go_enter func184,ntmps184
    go_wp2_with (first|(go_at_call 106;refine(xQ V.out) ?_;rintro e w' ⟨rfl,rfl⟩)|(go_at_call 130;refine(qre b _ X).mono ?_;rintro e w' ⟨rfl,rfl⟩))
    go_ret
    exact⟨rfl,O⟩
namespace Pl
variable{c:Ct}{a N:Nat}
structure PtB(n:Nat)(p:Pt):Prop where
 text:p.text.length<=n
 mate:p.mate<=n
theorem qzk{t:zU}{z:Nat}(h:∀p∈c.parts,PtB t.length p):∀p∈(c.addText t a z).parts,PtB t.length p:=by
 unfold Ct.addText;split
 ·intro p y
  simp only[yn,yv]at y;rcases y with y|rfl
  ·exact h p y
  ·refine⟨?_,yH _⟩
   simp only[yP,yM];omega
 ·exact h
theorem q7y{l:List Pt}(m n:Nat)(y:n<=N)(h:∀p∈l,PtB N p):∀p∈qbd l m n,PtB N p:=by
 induction l generalizing m with
 |nil=>unfold qbd;simp
 |cons q l ih=>
   cases m with
   |zero=>
     intro p z;have e:qbd (q::l) 0 n={ q with mate:=n }::l:=rfl;rw[e]at z;rcases xt.1 z with rfl|z
     ·exact⟨(h q (by simp)).text,y⟩
     ·exact h p (yX _ z)
   |succ m=>
     intro p z;have e:qbd (q::l) (m+1) n=q::qbd l m n:=by simp[qbd]
     rw[e]at z;rcases xt.1 z with rfl|z
     ·exact h p (by simp)
     ·exact ih m (fun r D=>h r (yX _ D)) p z
theorem zgz{one:Tg}(h:∀p∈c.parts,PtB N p)(I:one.name.length<=N)(J:c.parts.length<=N)(O:∀m∈c.opened,m<c.parts.length):∀p∈(c.take one a).2.parts,PtB N p:=by
 have z:PtB N ⟨one.kind,a,one.name,0⟩:=⟨I,yH _⟩;have y:∀(l:List Pt) (q:Pt),(∀p∈l,PtB N p)->PtB N q->∀p∈l++[q],PtB N p:=fun l q J T p U=>by
  simp only[yn,yv]at U;rcases U with U|rfl
  ·exact J p U
  ·exact T
 unfold Ct.take;by_cases V:one.slip≠0
 ·rw[if_pos V];exact h
 rw[if_neg V];by_cases X:one.kind=7
 ·rw[if_pos X];exact h
 rw[if_neg X];by_cases Y:one.kind=8
 ·rw[if_pos Y];exact h
 rw[if_neg Y];by_cases D:one.kind=3\/one.kind=4
 ·rw[if_pos D]
  split
  ·exact h
  ·exact y _ _ h z
 rw[if_neg D];by_cases Z:one.kind=5
 ·rw[if_pos Z]
  split
  ·exact h
  ·rename_i m hm
   split
   ·exact h
   ·have:=O m (List.mem_of_getLast? hm)
    exact y _ _ (q7y _ _ J h) ⟨I,by show m<=N;omega⟩
 ·rw[if_neg Z]
  exact y _ _ h z
theorem qw2(l:zU):(qba l).name.length<=l.length:=by
 have y:∀(k:Nat) (n:zU),(qcc k n).name.length<=n.length:=fun k n=>by
  unfold qcc;split<;>split
  all_goals first|exact yg _|exact yH _
 unfold qba;split
 ·exact yH _
 ·split
  ·unfold qdc
   split
   ·exact yH _
   ·split
    ·split<;>exact yH _
    ·exact yH _
  ·split
   ·exact y _ _
   ·refine yh (y _ _) (yh (qiq _ _) ?_)
    rw[yM];omega
theorem zg4{t:zU}(hc:CtOk t c a)(h:∀p∈c.parts,PtB t.length p) :
  (∀d,c.step t a=.over d->∀p∈d.parts,PtB t.length p)/\(∀d b,c.step t a=.next d b->∀p∈d.parts,PtB t.length p):=by
 have U:=hc.le;cases y:(Go.Lib.cut (t.drop a) c.op).2.2 with
 |false=>
   rw[qmh y];refine⟨fun d e=>?_,fun d b e=>(by cases e)⟩;injection e with e;subst e;exact qzk h
 |true=>
   obtain⟨i1,V,I,X,J,Y⟩:=qj8 _ _ y;rw[yM]at I;cases z:(Go.Lib.cut (Go.Lib.cut (t.drop a) c.op).2.1 c.cl).2.2 with
   |false=>
     rw[qgt y z];exact⟨fun d e=>(by cases e),fun d b e=>(by cases e)⟩
   |true=>
     obtain⟨i2,Z,O,ha,Ha,hb⟩:=qj8 _ _ z;rw[J,yM,yM]at O;obtain⟨one,h1⟩:∃one,qba (Go.Lib.trimS (Go.Lib.cut (Go.Lib.cut (t.drop a) c.op).2.1 c.cl).1 qag)=one:=⟨_,rfl⟩;have hn:=qw2 (Go.Lib.trimS (Go.Lib.cut (Go.Lib.cut (t.drop a) c.op).2.1 c.cl).1 qag);have Hb:(Go.Lib.trimS (Go.Lib.cut (Go.Lib.cut (t.drop a) c.op).2.1 c.cl).1 qag).length<=t.length:=by
      refine yh (qpy _ _).length_le ?_;omega
     rw[h1]at hn;generalize hO:(if one.kind≠2 then qel t (a+(Go.Lib.cut (t.drop a) c.op).1.length) (a+(Go.Lib.cut (t.drop a) c.op).1.length+c.op.length+(Go.Lib.cut (Go.Lib.cut (t.drop a) c.op).2.1 c.cl).1.length+c.cl.length)else(a+(Go.Lib.cut (t.drop a) c.op).1.length,a+(Go.Lib.cut (t.drop a) c.op).1.length+c.op.length+(Go.Lib.cut (Go.Lib.cut (t.drop a) c.op).2.1 c.cl).1.length+c.cl.length))=o;rw[qpa y z one h1 _ _ rfl rfl o hO];have T:o.1<=a+(Go.Lib.cut (t.drop a) c.op).1.length:=by
      subst hO;split
      ·exact(qqx _ _ _ (by omega) (by omega)).1
      ·exact yg _
     have D:=qin hc o.1 (a+(Go.Lib.cut (t.drop a) c.op).1.length) (by omega) T (by omega);refine⟨fun d e=>?_,fun d b e=>?_⟩
     ·split at e<;>cases e
     ·split at e
      ·cases e
      ·injection e with e1 e2
       subst e1;exact zgz (qzk h) (by omega) (yh D.few D.le) D.wf.lt
theorem go_b(t:zU):∀(n:Nat) (c:Ct) (a:Nat),CtOk t c a->(∀p∈c.parts,PtB t.length p)->∀p∈(Ct.go t n c a).2,PtB t.length p:=by
 intro n
 induction n with
 |zero=>intro c a _ _ p y;cases y
 |succ n ih=>
   intro c a z h;obtain⟨D,I⟩:=zg4 z h;unfold Ct.go;cases J:c.step t a with
   |slip k p=>intro p y;cases y
   |over d=>exact D d J
   |next d b=>exact ih d b (qhj z J).1 (I d b J)
theorem zdg(t:zU)(h:(qam t).1.1=0):t.length<=2000/\∀p∈(qam t).2,PtB t.length p:=by
 have y:=go_b t (t.length+1) Ct.start 0 (qik t) (fun p z=>by cases z)
 unfold qam at h |-;split at h
 ·cases h
 ·rename_i D
  refine⟨by omega,?_⟩;rw[if_neg D];split
  ·exact y
  ·intro p z;cases z
variable{x y z:Sx}{n:Nat}
def ext(n w:zU):zU:=w.foldl qc8 n
theorem qnv(n u w:zU):ext n (u++w)=ext (ext n u) w:=by simp[ext]
def Sx.app(x:Sx)(w:zU):Sx:=⟨{ x.st with name:=ext x.st.name w },x.ma⟩
theorem qia(x:Sx)(u w:zU):(x.app u).app w=x.app (u++w):=by
 unfold Sx.app;simp only[qnv]
structure Nam(x:Sx):Prop where
 mode:x.st.mode=3\/x.st.mode=5
 kind:x.st.kind=0
 ma:x.ma=Mk.none
theorem Nam.app(h:Nam x)(w:zU):Nam (x.app w):=⟨h.mode,h.kind,h.ma⟩
structure Kin(x y:Sx):Prop where
 nam:Nam x
 eq:y=⟨{ x.st with name:=y.st.name },x.ma⟩
 len:x.st.name.length=y.st.name.length
 el:∀w,qaw (ext x.st.name w)=qaw (ext y.st.name w)
 ki:∀w,qc1 (ext x.st.name w)=qc1 (ext y.st.name w)
theorem q09{n m:zU}(b:UInt8)(h:n.length=m.length):(qc8 n b).length=(qc8 m b).length:=by
 unfold qc8;rw[h];split
 ·exact h
 ·rw[yJ,yJ,h]
theorem zc3(w:zU):∀ {n m:zU},n.length=m.length->(ext n w).length=(ext m w).length:=by
 induction w with
 |nil=>intro n m h;exact h
 |cons b w ih=>intro n m h;exact ih (q09 b h)
theorem Kin.app(h:Kin x y)(w:zU):Kin (x.app w) (y.app w):=by
 refine⟨h.nam.app w,?_,zc3 w h.len,fun u=>?_,fun u=>?_⟩
 ·have:=h.eq
  unfold Sx.app;rw[this]
 ·show qaw (ext (ext _ _) _)=qaw (ext (ext _ _) _)
  rw[<-qnv,<-qnv];exact h.el _
 ·show qc1 (ext (ext _ _) _)=qc1 (ext (ext _ _) _)
  rw[<-qnv,<-qnv];exact h.ki _
theorem qqr{m:Nat}(h:m=3\/m=5)(b:UInt8):qa2.getD m false=false/\qbx m b=m/\¬ 19<=m:=by
 rcases h with rfl|rfl<;>exact⟨rfl,by unfold qbx;rw[if_neg (fun q=>q.2 rfl)],by omega⟩
theorem q07(h:Nam x)(b:UInt8):x.behind b=Sx.led x (qdg x.st.mode b) b:=by
 obtain⟨q1,q2,q3⟩:=qqr h.mode b;rw[qrn x b _ _ (fun q=>q3 q.1) (by rw[q1];rfl) q2 rfl];unfold St.nowRead;rw[if_neg q3]
theorem qu3(h:Nam x)(b:UInt8)(y:qdg x.st.mode b=x.st.mode):x.behind b=x.app [b]:=by
 rw[q07 h b,y];obtain⟨⟨m,n,e,k,r,c⟩,K⟩:=x;obtain⟨z,D,hK⟩:=h;simp only at z D hK;subst D hK;unfold Sx.led St.led qms Sx.app;simp only[if_true];rcases z with rfl|rfl
 ·rfl
 ·rfl
theorem zfv(h:Kin x y)(b:UInt8)(z:qdg x.st.mode b≠x.st.mode):x.behind b=y.behind b:=by
 have D:Nam y:=by have:=h.eq;rw[this];exact⟨h.nam.mode,h.nam.kind,h.nam.ma⟩
 rw[q07 h.nam b,q07 D b];have I:=h.el [];have J:=h.ki [];have O:=h.eq;generalize y.st.name=n' at I J O;subst O;obtain⟨⟨m,n,e,k,r,c⟩,K⟩:=x;simp only at z I J |-;change qaw n=qaw n' at I;change qc1 n=qc1 n' at J;generalize qdg m b=t at z;have T:¬(t=m/\t≠34):=fun q=>z q.1;unfold Sx.led qms St.led St.named;simp only[if_neg z,if_neg T,I,J]
theorem qmq(h:Nam x):x.behindHole=x:=by
 unfold Sx.behindHole;refine if_neg (fun q=>?_);have:=(qdy q.1).1;have:=h.mode;omega
def al(m:Nat):zU->zU×Bool
 |[]=>([],true)
 |b::t=>if qdg m b=m then(b::(al m t).1,(al m t).2)else([],false)
theorem zdr(m:Nat):∀t,(al m t).2=true->(al m t).1=t
 |[],_=>rfl
 |b::t,h=>by
   unfold al at h |-;split
   ·next q=>rw[if_pos q]at h;simp only;rw[zdr m t h]
   ·next q=>rw[if_neg q]at h;cases h
theorem qtz{m:Nat}:∀(t:zU) (x:Sx),Nam x->x.st.mode=m->(al m t).2=true->qax x t=x.app t
 |[],x,_,_,_=>rfl
 |b::t,x,hx,hm,h=>by
   unfold al at h;by_cases q:qdg m b=m
   ·rw[if_pos q]at h
    show qax (x.behind b) t=_;rw[qu3 hx b (by rw[hm];exact q),qtz t _ (hx.app _) hm h,qia];rfl
   ·rw[if_neg q]at h;cases h
theorem zgm{m:Nat}:∀(t:zU) (x y:Sx),Kin x y->x.st.mode=m->(al m t).2=false->qax x t=qax y t
 |[],x,y,_,_,h=>by cases h
 |b::t,x,y,hx,hm,h=>by
   unfold al at h;show qax (x.behind b) t=qax (y.behind b) t;by_cases q:qdg m b=m
   ·rw[if_pos q]at h
    have I:Nam y:=by have:=hx.eq;rw[this];exact⟨hx.nam.mode,hx.nam.kind,hx.nam.ma⟩
    have D:y.st.mode=m:=by rw[<-hm];exact yE (fun z=>z.st.mode) hx.eq
    rw[qu3 hx.nam b (by rw[hm];exact q),qu3 I b (by rw[D];exact q)];exact zgm t _ _ (hx.app _) hm h
   ·rw[zfv hx b (by rw[hm];exact q)]
inductive It where
 |tx (t:zU)
 |ho
 |ca (n:Nat)
def go(o:Nat->Sx->Option Sx):List It->Sx->Option Sx
 |[],x=>some x
 |.tx t::l,x=>go o l (qax x t)
 |.ho::l,x=>go o l x.behindHole
 |.ca n::l,x=>match o n x with
   |some y=>go o l y
   |none=>none
def fin(B:Nat->List It):Nat->Nat->Sx->Option Sx
 |0,_,_=>none
 |h+1,n,x=>go (fin B h) (B n) x
theorem qj2{o o':Nat->Sx->Option Sx}(h:∀n x y,o n x=some y->o' n x=some y):∀(l:List It) (x y:Sx),go o l x=some y->go o' l x=some y
 |[],_,_,q=>q
 |.tx _::l,_,_,q=>qj2 h l _ _ q
 |.ho::l,_,_,q=>qj2 h l _ _ q
 |.ca n::l,x,y,q=>by
   unfold go at q |-;cases D:o n x with
   |none=>rw[D]at q;cases q
   |some z=>rw[D]at q;rw[h n x z D];exact qj2 h l _ _ q
theorem q3k(B:Nat->List It):∀(h n:Nat) (x y:Sx),fin B h n x=some y->fin B (h+1) n x=some y
 |0,_,_,_,q=>by cases q
 |h+1,n,x,y,q=>qj2 (q3k B h) (B n) x y q
theorem qpg(B:Nat->List It){h k:Nat}(z:h<=k){n:Nat}{x y:Sx}(q:fin B h n x=some y):fin B k n x=some y:=by
 induction z with
 |refl=>exact q
 |step _ ih=>exact q3k B _ _ _ _ ih
theorem qj3(o:Nat->Sx->Option Sx)(m:List It):∀(l:List It) (x:Sx),go o (l++m) x=(go o l x).bind (go o m)
 |[],_=>rfl
 |.tx _::l,_=>qj3 o m l _
 |.ho::l,_=>qj3 o m l _
 |.ca n::l,x=>by
   show go o (.ca n::(l++m)) x=_;unfold go;cases o n x with
   |none=>rfl
   |some z=>exact qj3 o m l z
def Via(B:Nat->List It)(l:List It)(x y:Sx):Prop:=∃h,go (fin B h) l x=some y
def Done(B:Nat->List It)(n:Nat)(x y:Sx):Prop:=∃h,fin B h n x=some y
theorem za5{B:Nat->List It}(h:Via B (B n) x y):Done B n x y:=h.elim fun k q=>⟨k+1,q⟩
theorem zeq(B:Nat->List It)(x:Sx):Via B [] x x:=⟨0,rfl⟩
theorem qpq{B:Nat->List It}{l m:List It}(h:Via B l x y)(D:Via B m y z):Via B (l++m) x z:=by
 obtain⟨a,q⟩:=h;obtain⟨b,q'⟩:=D;refine⟨max a b,?_⟩;rw[qj3,qj2 (fun n x y=>qpg B (Nat.le_max_left a b)) _ _ _ q];exact qj2 (fun n x y=>qpg B (Nat.le_max_right a b)) _ _ _ q'
theorem zgs(B:Nat->List It)(t:zU)(x:Sx):Via B [.tx t] x (qax x t):=⟨0,rfl⟩
theorem zgt(B:Nat->List It)(x:Sx):Via B [.ho] x x.behindHole:=⟨0,rfl⟩
theorem q64{B:Nat->List It}(h:Done B n x y):Via B [.ca n] x y:=h.elim fun k q=>⟨k,by unfold go;rw[q];rfl⟩
theorem qwd{B:Nat->List It}{l:List It}(h:Via B l x y)(D:Via B l x z):y=z:=by
 obtain⟨a,q⟩:=h;obtain⟨b,q'⟩:=D;have e:=qj2 (fun n x y=>qpg B (Nat.le_max_left a b)) _ _ _ q;have e':=qj2 (fun n x y=>qpg B (Nat.le_max_right a b)) _ _ _ q';exact yk (e.symm.trans e')
def cat(p q:zU×Bool):zU×Bool:=if p.2=true then(p.1++q.1,q.2)else p
def wgo(oW:Nat->zU×Bool)(m:Nat):List It->zU×Bool
 |[]=>([],true)
 |.tx t::l=>cat (al m t) (wgo oW m l)
 |.ho::l=>wgo oW m l
 |.ca n::l=>cat (oW n) (wgo oW m l)
def wd(B:Nat->List It)(m:Nat):Nat->Nat->zU×Bool
 |0,_=>([],false)
 |h+1,n=>wgo (wd B m h) m (B n)
def Le(p q:zU×Bool):Prop:=p.1 <+: q.1/\(p.2=true->q=p)
theorem Le.refl(p:zU×Bool):Le p p:=⟨yA _,fun _=>rfl⟩
theorem Le.trans{p q r:zU×Bool}(h:Le p q)(k:Le q r):Le p r:=⟨h.1.trans k.1,fun e=>by
 have:=h.2 e;subst this;exact k.2 e⟩
theorem Le.cat{p p' q q':zU×Bool}(h:Le p p')(k:Le q q'):Le (cat p q) (cat p' q'):=by
 unfold Pl.cat;by_cases e:p.2=true
 ·have:=h.2 e
  subst this;rw[if_pos e,if_pos e];exact⟨(List.prefix_append_right_inj _).2 k.1,fun z=>by have:=k.2 z;subst this;rfl⟩
 ·rw[if_neg e]
  refine⟨?_,fun z=>absurd z e⟩;split
  ·exact h.1.trans (List.prefix_append _ _)
  ·exact h.1
theorem qma{m:Nat}{o o':Nat->zU×Bool}(h:∀n,Le (o n) (o' n)):∀l:List It,Le (wgo o m l) (wgo o' m l)
 |[]=>Le.refl _
 |.tx _::l=>(Le.refl _).cat (qma h l)
 |.ho::l=>qma h l
 |.ca n::l=>(h n).cat (qma h l)
theorem q60(B:Nat->List It)(m:Nat):∀h n:Nat,Le (wd B m h n) (wd B m (h+1) n)
 |0,_=>⟨List.nil_prefix,fun q=>by cases q⟩
 |h+1,n=>qma (q60 B m h) (B n)
theorem qt8(B:Nat->List It)(m:Nat){h k:Nat}(y:h<=k)(n:Nat):Le (wd B m h n) (wd B m k n):=by
 induction y with
 |refl=>exact Le.refl _
 |step _ ih=>exact ih.trans (q60 B m _ n)
theorem qy5(p q r:zU×Bool):cat p (cat q r)=cat (cat p q) r:=by
 unfold cat;by_cases a:p.2=true
 ·by_cases b:q.2=true
  ·simp[a,b]
  ·simp[a,b]
 ·simp[a]
theorem qkh(o:Nat->zU×Bool)(m:Nat)(k:List It):∀l:List It,wgo o m (l++k)=cat (wgo o m l) (wgo o m k)
 |[]=>by simp[wgo,cat]
 |.tx t::l=>by
   show cat _ (wgo o m (l++k))=cat (cat _ _) _;rw[qkh o m k l,qy5]
 |.ho::l=>qkh o m k l
 |.ca n::l=>by
   show cat _ (wgo o m (l++k))=cat (cat _ _) _;rw[qkh o m k l,qy5]
theorem zhf(B:Nat->List It)(m:Nat):∀(h:Nat) (l:List It) (x y:Sx),Kin x y->x.st.mode=m->∀x',go (fin B h) l x=some x' ->
  ∃y',go (fin B h) l y=some y'/\(x'=y'\/∃w,wgo (wd B m h) m l=(w,true)/\x'=x.app w/\y'=y.app w):=by
 intro h
 induction h with
 |zero=>
   intro l
   induction l with
   |nil=>intro x y _ _ x' q;injection q with q;subst q;exact⟨y,rfl,.inr ⟨[],rfl,rfl,rfl⟩⟩
   |cons i l ih=>
     intro x y I J x' q;cases i with
     |tx t=>
       cases O:(al m t).2
       ·have:=zgm t x y I J O
        have q:go (fin B 0) l (qax x t)=some x':=q;exact⟨x',by show go _ l (qax y t)=_;rw[<-this];exact q,.inl rfl⟩
       ·have T:Nam y:=by have:=I.eq;rw[this];exact⟨I.nam.mode,I.nam.kind,I.nam.ma⟩
        have D:y.st.mode=m:=by rw[<-J];exact yE (fun z=>z.st.mode) I.eq
        have q:go (fin B 0) l (qax x t)=some x':=q;rw[qtz t x I.nam J O]at q;obtain⟨y',q1,q2⟩:=ih _ _ (I.app t) J x' q;refine⟨y',by show go _ l (qax y t)=_;rw[qtz t y T D O];exact q1,q2.imp id ?_⟩;rintro⟨w,e1,e2,e3⟩;exact⟨t++w,by show cat _ _=_;rw[e1];unfold cat;rw[if_pos O,zdr m t O],by rw[e2,qia],by rw[e3,qia]⟩
     |ho=>
       have T:Nam y:=by have:=I.eq;rw[this];exact⟨I.nam.mode,I.nam.kind,I.nam.ma⟩
       have q:go (fin B 0) l x.behindHole=some x':=q;rw[qmq I.nam]at q;obtain⟨y',q1,q2⟩:=ih x y I J x' q;exact⟨y',by show go _ l y.behindHole=_;rw[qmq T];exact q1,q2⟩
     |ca n=>cases q
 |succ h ihh=>
   intro l
   induction l with
   |nil=>intro x y _ _ x' q;injection q with q;subst q;exact⟨y,rfl,.inr ⟨[],rfl,rfl,rfl⟩⟩
   |cons i l ih=>
     intro x y I J x' q;have T:Nam y:=by have:=I.eq;rw[this];exact⟨I.nam.mode,I.nam.kind,I.nam.ma⟩
     have D:y.st.mode=m:=by rw[<-J];exact yE (fun z=>z.st.mode) I.eq
     cases i with
     |tx t=>
       cases O:(al m t).2
       ·have:=zgm t x y I J O
        have q:go (fin B (h+1)) l (qax x t)=some x':=q;exact⟨x',by show go _ l (qax y t)=_;rw[<-this];exact q,.inl rfl⟩
       ·have q:go (fin B (h+1)) l (qax x t)=some x':=q
        rw[qtz t x I.nam J O]at q;obtain⟨y',q1,q2⟩:=ih _ _ (I.app t) J x' q;refine⟨y',by show go _ l (qax y t)=_;rw[qtz t y T D O];exact q1,q2.imp id ?_⟩;rintro⟨w,e1,e2,e3⟩;exact⟨t++w,by show cat _ _=_;rw[e1];unfold cat;rw[if_pos O,zdr m t O],by rw[e2,qia],by rw[e3,qia]⟩
     |ho=>
       have q:go (fin B (h+1)) l x.behindHole=some x':=q;rw[qmq I.nam]at q;obtain⟨y',q1,q2⟩:=ih x y I J x' q;exact⟨y',by show go _ l y.behindHole=_;rw[qmq T];exact q1,q2⟩
     |ca n=>
       unfold go at q;cases U:fin B (h+1) n x with
       |none=>rw[U]at q;cases q
       |some z=>
         rw[U]at q;have q:go (fin B (h+1)) l z=some x':=q;obtain⟨z',r1,r2⟩:=ihh (B n) x y I J z U;have r1:fin B (h+1) n y=some z':=r1;rcases r2 with rfl|⟨w,e1,rfl,rfl⟩
         ·exact⟨x',by unfold go;rw[r1];exact q,.inl rfl⟩
         ·obtain⟨y',q1,q2⟩:=ih _ _ (I.app w) J x' q
          refine⟨y',by unfold go;rw[r1];exact q1,q2.imp id ?_⟩;rintro⟨u,f1,f2,f3⟩;refine⟨w++u,?_,by rw[f2,qia],by rw[f3,qia]⟩;show cat (wd B m (h+1) n) _=_;have e1:wd B m (h+1) n=(w,true):=e1;rw[e1,f1];rfl
variable{x:Sx}
structure Fitn(x:Sx):Prop where
 fit:SxFit x
 nam:x.st.mode=3\/x.st.mode=5->x.st.kind=0/\x.ma=Mk.none
theorem q54:Fitn Sx.start:=⟨qmi,fun h=>by revert h;decide⟩
theorem qpm(n:zU):(qad n).mode≠3/\(qad n).mode≠5:=by
 unfold qad;split
 ·exact⟨by simp,by simp⟩
 ·show qav n≠3/\qav n≠5
  unfold qav
  repeat' split
  all_goals omega
theorem q1p(b:UInt8)(h:Fitn x):Fitn (x.behind b):=by
 refine⟨qtv b h.fit,?_⟩;by_cases X:19<=x.st.mode/\x.st.ends b=true
 ·rw[q3x x b X.1 X.2];intro _;exact⟨rfl,rfl⟩
 by_cases Y:(qa2.getD x.st.mode false && (x.st.esc || b==92))=true
 ·rw[qy7 x b X Y]
  intro Z;rw[yL]at Y;rcases Z with Z|Z
  ·have Z:x.st.mode=3:=Z
   rw[Z]at Y;exact absurd Y.1 (by decide)
  ·have Z:x.st.mode=5:=Z
   rw[Z]at Y;exact absurd Y.1 (by decide)
 have Y:=ye.2 Y;have e:=qrn x b _ _ X Y rfl rfl;have hx:=h.nam;have hk:=qy9 b h.fit.ok.st;have e0:x.st.behind b=_:=yE Sx.st e;rw[e0]at hk;have hk:((St.mk (qbx x.st.mode b) x.st.name x.st.elem x.st.kind (x.st.nowRead b) x.st.esc).led (qdg x.st.mode b) b).Ok:=hk;have I:qbx x.st.mode b=x.st.mode\/qbx x.st.mode b=qhm x.st.mode:=by unfold qbx;split<;>simp
 have J:qhm x.st.mode≠3/\qhm x.st.mode≠5:=by
  have O:=h.fit.ok.st.hi;have:∀m,m<=33->qhm m≠3/\qhm m≠5:=by decide
  exact this _ O
 rw[e];generalize qbx x.st.mode b=r at I hk |-;generalize qdg x.st.mode b=t at hk |-;clear e0 e;intro Z;have y:((St.mk r x.st.name x.st.elem x.st.kind (x.st.nowRead b) x.st.esc).led t b).mode=3\/((St.mk r x.st.name x.st.elem x.st.kind (x.st.nowRead b) x.st.esc).led t b).mode=5:=Z;by_cases D:t=34
 ·exfalso
  subst D;have hw:∀s:St,(s.led1 34 b)=qad s.elem:=by
   intro s;unfold St.led1;rw[if_neg (by decide),if_neg (by decide),if_neg (by decide),if_pos rfl]
  unfold St.led at y;split at y
  all_goals
   rw[hw]at y;rcases y with q|q
   ·exact(qpm _).1 q
   ·exact(qpm _).2 q
 have hf:=zcf (St.mk r x.st.name x.st.elem x.st.kind (x.st.nowRead b) x.st.esc) t b D;rw[hf.1]at y;have T:qms ⟨r,x.st.name,x.st.elem,x.st.kind,x.st.nowRead b,x.st.esc⟩ x.ma t b=Mk.none:=by
  unfold qms;split
  ·next q=>
   have hr:r=t:=q.1.symm;have U:x.st.mode=3\/x.st.mode=5:=by
    rcases I with z|z
    ·omega
    ·exact absurd z (by have:=J.1;have:=J.2;omega)
   obtain⟨z1,z2⟩:=hx U;have V:r=3\/r=5:=by omega
   simp only;rw[z1,z2];rcases V with rfl|rfl<;>rfl
  ·rfl
 refine⟨?_,T⟩;show((St.mk r x.st.name x.st.elem x.st.kind (x.st.nowRead b) x.st.esc).led t b).kind=0;rw[qva _ _ _ D];rcases y with rfl|rfl
 ·have:=hk.bare
  rw[hf.1]at this;rw[<-qva _ 3 _ D];exact(this (.inl (by omega))).2
 ·rw[if_pos (.inr (.inl rfl))]
theorem q9o(h:Fitn x):Fitn x.behindHole:=by
 refine⟨qmy h.fit,?_⟩;unfold Sx.behindHole;split
 ·next q=>
  intro y;have:=(qdy q.1).1;have y:x.st.mode=3\/x.st.mode=5:=y;omega
 ·exact h.nam
theorem Fitn.na(h:Fitn x)(y:x.st.mode=3\/x.st.mode=5):Nam x:=⟨y,(h.nam y).1,(h.nam y).2⟩
theorem mix(k:Nat){a b a' b':Nat}(h:a*k+b=a'*k+b')(z:b<k)(y:b'<k):a=a'/\b=b':=by
 have e:b=b':=by
  have D:(a*k+b) % k=b:=by rw[Nat.mul_comm,Nat.mul_add_mod,Nat.mod_eq_of_lt z]
  have I:(a'*k+b') % k=b':=by rw[Nat.mul_comm,Nat.mul_add_mod,Nat.mod_eq_of_lt y]
  rw[<-D,h,I]
 subst e;exact⟨Nat.eq_of_mul_eq_mul_right (by omega) (by omega:a*k=a'*k),rfl⟩
theorem mix8{a b c d e f g i a' b' c' d' e' f' g' i':Nat}(h:((((((a*5+b)*12+c)*2+d)*2+e)*6+f)*3+g)*4+i=((((((a'*5+b')*12+c')*2+d')*2+e')*6+f')*3+g')*4+i')
  (y:b<5/\b'<5) (z:c<12/\c'<12) (hd:d<2/\d'<2) (D:e<2/\e'<2) (I:f<6/\f'<6) (J:g<3/\g'<3) (O:i<4/\i'<4) :
  a=a'/\b=b'/\c=c'/\d=d'/\e=e'/\f=f'/\g=g'/\i=i':=by
 obtain⟨h,q8⟩:=mix 4 h O.1 O.2;obtain⟨h,q7⟩:=mix 3 h J.1 J.2;obtain⟨h,q6⟩:=mix 6 h I.1 I.2;obtain⟨h,q5⟩:=mix 2 h D.1 D.2;obtain⟨h,q4⟩:=mix 2 h hd.1 hd.2;obtain⟨h,q3⟩:=mix 12 h z.1 z.2;obtain⟨q1,q2⟩:=mix 5 h y.1 y.2;exact⟨q1,q2,q3,q4,q5,q6,q7,q8⟩
def q2h:List zU:=[qd1,qg0,qcx,qcz,[104,114,101,102],[115,114,99],[97,99,116,105,111,110],[111,110]]
def qdh:List zU:=q2h.flatMap fun w=>(List.range (w.length+1)).map fun k=>w.take k
theorem qni{n w:zU}(y:w∈q2h)(h:n <+: w):n∈qdh:=
 List.mem_flatMap.2 ⟨w,y,xq.2 ⟨n.length,xg.2 (by have:=h.length_le;omega),(List.prefix_iff_eq_take.1 h).symm⟩⟩
def qoz(n:zU):Bool:=[111,110].isPrefixOf n
def idx(n:zU):Nat:=qdh.findIdx (·== n)
theorem q9e(n:zU):idx n<48:=Nat.lt_succ_of_le (yh List.findIdx_le_length (by decide))
theorem q1j{n:zU}(h:n∈qdh):qdh[idx n]?=some n:=by
 have y:idx n<qdh.length:=List.findIdx_lt_length_of_exists ⟨n,h,by simp⟩;have:=List.findIdx_getElem (w:=y);rw[yc y];exact yE some (yF.1 this)
theorem q9d{n:zU}(h:n∉qdh):qdh[idx n]?=none:=by
 refine yd ?_;rcases Nat.lt_or_ge (idx n) qdh.length with y|y
 ·have:=List.findIdx_getElem (w:=y)
  exact absurd (yF.1 this▸List.getElem_mem y) h
 ·exact y
def zdj(n:zU):Nat:=(n.length*48+idx n)*2+(qoz n).toNat
theorem q9t(w:zU):∀n:zU,n <+: ext n w:=by
 induction w with
 |nil=>intro n;exact yA _
 |cons b w ih=>
   intro n;refine List.IsPrefix.trans ?_ (ih (qc8 n b));unfold qc8;split
   ·exact yA _
   ·exact List.prefix_append _ _
theorem qqq{n w:zU}(h:n∉qdh)(u:zU)(y:w∈q2h):ext n u≠w:=fun e=>h (qni y (e▸q9t u n))
theorem zed{n:zU}(h:n∉qdh)(w:zU):qaw (ext n w)=[]:=by
 unfold qaw;refine if_neg ?_;rintro(e|e|e|e)
 all_goals exact qqq h w (by decide) e
theorem zg9{n:zU}(h:n∉qdh)(w:zU):qoz (ext n w)=qoz n:=by
 obtain⟨r,y⟩:=q9t w n;rw[<-y]
 match n,h with
 |[],h=>exact absurd (qni (w:=qd1) (by decide) List.nil_prefix) h
 |[a],h=>
   have z:a≠111:=fun e=>h (by rw[e];exact qni (w:=[111,110]) (by decide) ⟨[110],rfl⟩);unfold qoz;simp[List.isPrefixOf,beq_eq_false_iff_ne.2 (Ne.symm z)]
 |a::b::t,h=>unfold qoz;simp[List.isPrefixOf]
theorem zea{n:zU}(h:n∉qdh)(w:zU):qc1 (ext n w)=if qoz n=true then 2 else 0:=by
 rw[<-zg9 h w];have y:∀v∈q2h,(v==ext n w)=false:=fun v D=>yf.2 (fun e=>qqq h w D e.symm);have I:=y [104,114,101,102] (by decide);have J:=y [115,114,99] (by decide);have O:=y [97,99,116,105,111,110] (by decide);have T:=y qcz (by decide);have U:=y [111,110] (by decide);generalize ext n w=z at *;unfold qc1 qdu;simp only[List.find?,qbc,I,J,O,T,U,Bool.false_or,Bool.false_and,Bool.true_and];unfold qoz;cases V:[111,110].isPrefixOf z<;>simp
def kr(s:St):Nat:=if s.mode<19 then(s.kind+3).toNat else s.read
def zdk(x:Sx):Nat:=((((((x.st.mode*5+qcu x.st.elem)*12+kr x.st)*2+x.st.esc.toNat)*2+x.ma.ref.toNat)*6+x.ma.hex.toNat)*3+x.ma.pct.toNat)*4+x.ma.far.toNat
def cls2(x:Sx):Nat:=if x.st.mode=3\/x.st.mode=5 then 587520+(x.st.mode / 5*5+qcu x.st.elem)*960+zdj x.st.name else zdk x
theorem qhh(n:zU):qcu n<5:=by
 unfold qcu
 repeat' split
 all_goals omega
theorem zft{s:St}(h:s.Ok):kr s<12:=by
 unfold kr;have y:=h.wrap;have z:=h.read;have D:=qks h.elem;unfold St.ending at z;simp only[yK]at z;split<;>omega
theorem qgq(b:Bool):b.toNat<2:=by cases b<;>decide
theorem qvz(h:Fitn x):zdk x<587520:=by
 unfold zdk;have y:=h.fit.ok.st.hi;have z:=qhh x.st.elem;have D:=zft h.fit.ok.st;have I:=qgq x.st.esc;have J:=qgq x.ma.ref;have O:=h.fit.ok.ma.hex;have T:=h.fit.ok.ma.pct;have U:=h.fit.far;omega
theorem qvy{n:zU}(h:n.length<=9):zdj n<960:=by
 unfold zdj;have:=q9e n;have:=qgq (qoz n);omega
theorem q18(h:Fitn x):cls2 x<597120:=by
 unfold cls2;split
 ·next q=>
  have y:=qhh x.st.elem;have z:=qvy h.fit.ok.st.name;have:x.st.mode / 5<=1:=by rcases q with q|q<;>rw[q]<;>decide
  omega
 ·have:=qvz h;omega
theorem zhc{y:Sx}(I:Fitn x)(J:Fitn y)(h:cls2 x=cls2 y):x=y\/Kin x y:=by
 have ox:=I.fit.ok.st;have oy:=J.fit.ok.st;unfold cls2 at h;by_cases nx:x.st.mode=3\/x.st.mode=5
 ·by_cases ny:y.st.mode=3\/y.st.mode=5
  ·rw[if_pos nx,if_pos ny]at h
   have c1:=qvy ox.name;have c2:=qvy oy.name;obtain⟨h,O⟩:=mix 960 (a:=x.st.mode / 5*5+qcu x.st.elem) (a':=y.st.mode / 5*5+qcu y.st.elem) (by omega) c1 c2;obtain⟨T,U⟩:=mix 5 h (qhh _) (qhh _);have T:y.st.mode=x.st.mode:=by rcases nx with q|q<;>rcases ny with r|r<;>rw[q,r]at T<;>omega
   have U:y.st.elem=x.st.elem:=(qnz ox.elem oy.elem U).symm;unfold zdj at O;obtain⟨O,V⟩:=mix 2 O (qgq _) (qgq _);obtain⟨X,Y⟩:=mix 48 O (q9e _) (q9e _);have V:qoz x.st.name=qoz y.st.name:=by revert V;cases qoz x.st.name<;>cases qoz y.st.name<;>simp
   have nmx:=I.na nx;have nmy:=J.na ny;have Z:y.st.read=x.st.read:=by rw[ox.low (by omega),oy.low (by omega)]
   have hc:y.st.esc=x.st.esc:=by
    rw[ox.calm (qqr nx 0).1,oy.calm (qqr ny 0).1]
   have hq:y=⟨{ x.st with name:=y.st.name },x.ma⟩:=by
    have k1:=nmx.kind;have k2:=nmy.kind;have k3:=nmx.ma;have k4:=nmy.ma;obtain⟨⟨m,n,e,k,r,c⟩,K⟩:=x;obtain⟨⟨m',n',e',k',r',c'⟩,K'⟩:=y;simp only at T U Z hc k1 k2 k3 k4 |-;rw[T,U,Z,hc,k1,k2,k3,k4]
   by_cases hs:x.st.name∈qdh
   ·have g1:=q1j hs
    rw[Y]at g1;have D:y.st.name∈qdh:=by
     by_cases z:y.st.name∈qdh
     ·exact z
     ·rw[q9d z]at g1;cases g1
    rw[q1j D]at g1;have e:y.st.name=x.st.name:=yk g1;left;rw[hq,e]
   ·have D:y.st.name∉qdh:=by
     intro z;have g1:=q1j z;rw[<-Y,q9d hs]at g1;cases g1
    exact .inr ⟨nmx,hq,X,fun w=>by rw[zed hs,zed D],fun w=>by rw[zea hs,zea D,V]⟩
  ·rw[if_pos nx,if_neg ny]at h
   have:=qvz J;omega
 ·by_cases ny:y.st.mode=3\/y.st.mode=5
  ·rw[if_neg nx,if_pos ny]at h
   have:=qvz I;omega
  ·rw[if_neg nx,if_neg ny]at h
   left;unfold zdk at h;have a1:=I.fit.far;have a2:=J.fit.far;have a3:=I.fit.ok.ma.pct;have a4:=J.fit.ok.ma.pct;have a5:=I.fit.ok.ma.hex;have a6:=J.fit.ok.ma.hex;obtain⟨q1,q2,q3,q4,q5,q6,q7,q8⟩:=mix8 h ⟨qhh _,qhh _⟩ ⟨zft ox,zft oy⟩ ⟨qgq _,qgq _⟩ ⟨qgq _,qgq _⟩ (by omega) (by omega) (by omega);have e2:=qnz ox.elem oy.elem q2;have n1:=ox.named (fun z=>nx (.inl z)) (fun z=>nx (.inr z));have n2:=oy.named (fun z=>ny (.inl z)) (fun z=>ny (.inr z));have e4:x.st.esc=y.st.esc:=by revert q4;cases x.st.esc<;>cases y.st.esc<;>simp
   have e5:x.ma.ref=y.ma.ref:=by revert q5;cases x.ma.ref<;>cases y.ma.ref<;>simp
   have e3:x.st.kind=y.st.kind/\x.st.read=y.st.read:=by
    unfold kr at q3;rw[q1]at q3;have w1:=ox.wrap;have w2:=oy.wrap;by_cases T:y.st.mode<19
    ·rw[if_pos T,if_pos T]at q3
     exact⟨by omega,by rw[ox.low (by omega),oy.low T]⟩
    ·rw[if_neg T,if_neg T]at q3
     exact⟨by rw[(ox.high (by omega)).2,(oy.high (by omega)).2],q3⟩
   obtain⟨⟨m,n,e,k,r,c⟩,⟨f1,f2,f3,f4⟩⟩:=x;obtain⟨⟨m',n',e',k',r',c'⟩,⟨g1,g2,g3,g4⟩⟩:=y;simp only at *;have z6:f2=g2:=by omega
   have z7:f3=g3:=by omega
   have z8:f4=g4:=by omega
   rw[q1,n1,n2,e2,e3.1,e3.2,e4,e5,z6,z7,z8]
end Pl
end Go.Proofs.YtfkhljmiehdgmaaGreatDoor
