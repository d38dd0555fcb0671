/-
  Steps of the proof.
-/
import Derived.Test.YtfkhljmiehdgmaaGreatDoorCmAG
import Derived.Lib.BufferWrite
import Derived.OwnWalk
set_option maxRecDepth 100000
set_option maxHeartbeats 40000000
namespace Go.Proofs.YtfkhljmiehdgmaaGreatDoor.Pl
theorem qpp(S:List Src)(k:Nat)(s:Sr)(n:List UInt8)(x:Sx)(h:qai S n=0):behV S k s n x=(s,x):=by
 cases k with
 |zero=>rfl
 |succ k=>unfold behV;rw[if_pos h]
def nmV(S:List Src)(k:Nat)(s:Sr)(n:List UInt8)(x:Sx):Sr×Nat×Sx:=
 let r:=behV S 257 s n x
 if qai S n=0\/r.1.fault.code≠0 then(r.1,0,r.2)
 else if qg1 r.1 (qai S n,x)=0 then
  (qfs S k r.1 (qai S n,x),qg1 (qfs S k r.1 (qai S n,x)) (qai S n,x),r.2)
 else(r.1,qg1 r.1 (qai S n,x),r.2)
theorem qqx(S:List Src)(k:Nat)(s:Sr)(n:List UInt8)(x:Sx)(h:qai S n=0):nmV S k s n x=(s,0,x):=by
 unfold nmV;rw[qpp S _ s n x h];simp only;rw[if_pos (.inl h)]
def begun(S:List Src)(s:Sr)(e:En):Sr:={ s with nums:=qa5 s.nums e s.vis.length,vis:=s.vis++[(e.1,List.replicate (qab S e.1).length 0)] }
theorem qla(S:List Src)(k:Nat)(s:Sr)(e:En):qfs S (k+1) s e=goV (nmV S k) S e.1 s.vis.length (qab S e.1) ((qab S e.1).length+1) 0 (begun S s e) e.2 []:=by
 conv=>lhs;unfold qfs
 rfl
def qz1(S:List Src)(P:List Pt):Prop:=∀p∈P,p.kind=6->qai S p.text=0
theorem qwk(S:List Src)(k:Nat)(s:Sr)(e:En)(hw:Wf 0 (qab S e.1))(ha:qz1 S (qab S e.1))(h0:s.fault.code=0)(hx:SxOk e.2) :
  q7p S e.1 (qab S e.1) (begun S s e) (qeo (qab S e.1) e.2 []) (qfs S (k+1) s e):=by
 rw[qla]
 have:=q6x (nmV S k) S e.1 s.vis.length (qab S e.1) (qk5 hw) (fun p hp hk s x=>qqx S k s _ x (ha p hp hk)) (begun S s e) h0 ((qab S e.1).length+1) 0 (begun S s e) e.2 [] (by omega)
  (by rw[List.drop_zero];have:=q4u hw [] 0 rfl;simpa using this) rfl (Marks.refl _) hx
 rw[List.drop_zero]at this;exact this
theorem qwe(S:List Src)(k:Nat)(s:Sr)(P:List Pt)(hw:Wf 0 P)(ha:qz1 S P)(x:Sx)(hx:SxOk x)(B:List Sx)(y:Sx×List Sx)(h:qeo P x B=some y):qdh (behV S k) P (P.length+1) 0 s x=(s,y.1):=
 qz5 (behV S k) hw P rfl (fun p hp hk s x=>qpp S k s _ x (ha p hp hk)) _ s x B y (by omega) hx h
theorem qxh(S:List Src)(len:Nat)(hw:Wf 0 (qab S 0))(ha:qz1 S (qab S 0)) :
  match qeo (qab S 0) Sx.start []with
  |some y=>(y.1=Sx.start->(qef S len).2=Ft.none/\(qef S len).1.length=1)/\(y.1≠Sx.start->(qef S len).2=⟨3,15,qen S 0,len⟩)
  |Option.none=>(qef S len).2.code=3/\(qef S len).2.place=qen S 0/\((qef S len).2.pos=0\/∃p∈qab S 0,(qef S len).2.pos=p.pos\/(p.kind=1/\(qef S len).2.pos<p.pos+p.text.length)):=by
 have h:=qwk S 257 ⟨[],[],[],Ft.none⟩ (0,Sx.start) hw ha rfl qjp;unfold qef;simp only;generalize qfs S 258 ⟨[],[],[],Ft.none⟩ (0,Sx.start)=s at h;unfold q7p at h;cases hf:qeo (qab S 0) Sx.start []with
 |none=>
   simp only[hf]at h |-;have:s.fault.code≠0:=by rw[h.1];decide
   rw[if_pos this];exact h
 |some y=>
   simp only[hf]at h |-;have hz:s.fault.code=0:=by rw[h.1];rfl
   have Ha:=qwe S 257 s _ hw ha Sx.start qjp [] y hf;rw[if_neg (by rw[hz];simp),Ha];have hy:SxOk y.1:=by
    clear Ha h hz;have hb:∀(l:List Pt) (x:Sx) (B:List Sx) (y:Sx×List Sx),SxOk x->qeo l x B=some y->SxOk y.1:=by
     intro l
     induction l with
     |nil=>intro x B y hx h;injection h with h;subst h;exact hx
     |cons p l ih=>
       intro x B y hx h;obtain⟨z,h1,h2⟩:=Option.bind_eq_some_iff.1 h;exact ih _ _ _ (qqf hx h1) h2
    exact hb _ _ _ _ qjp hf
   refine⟨fun e=>?_,fun e=>?_⟩
   ·rw[if_neg (fun q=>q.2 e),if_neg (by rw[hz];simp)]
    refine⟨rfl,?_⟩;rw[h.2.vis];rfl
   ·rw[if_pos ⟨qjv hy,e⟩]
variable{S:List Src}{s:Sr}{e:En}
structure Inv(S:List Src)(s:Sr):Prop where
 ends:EndsOk S.length s.ends
 key:∀p∈s.nums,SxFit p.1.2/\p.1.1<S.length
 one:qjl s.nums
 sub:∀p∈s.nums,p.1=(0,Sx.start)\/qa1 s.ends p.1≠Option.none
 zero:∀p∈s.nums,p.2=0->p.1.1=0
 vis:s.vis.length=s.nums.length
structure Gv(s s':Sr):Prop where
 has:∀e,qa1 s.ends e≠Option.none->qa1 s'.ends e≠Option.none
 nums:s.nums.length<=s'.nums.length
 vis:∀(i:Nat) (u:Nat×List Int),s.vis[i]?=some u->∃u',s'.vis[i]?=some u'/\u'.1=u.1/\u'.2.length=u.2.length
theorem Gv.refl(s:Sr):Gv s s:=⟨fun _ h=>h,Nat.le_refl _,fun _ u h=>⟨u,h,rfl,rfl⟩⟩
theorem Gv.trans{a b c:Sr}(h:Gv a b)(k:Gv b c):Gv a c:=
 ⟨fun e q=>k.has e (h.has e q),Nat.le_trans h.nums k.nums,fun i u q=>by
  obtain⟨u1,e1,e2,e3⟩:=h.vis i u q;obtain⟨u2,f1,f2,f3⟩:=k.vis i u1 e1;exact⟨u2,f1,f2.trans e2,f3.trans e3⟩⟩
theorem Inv.mark(h:Inv S s)(v a:Nat)(m:Int):Inv S (s.mark v a m):=⟨h.ends,h.key,h.one,h.sub,h.zero,by unfold Sr.mark;simp[h.vis]⟩
theorem Gv.mark(s:Sr)(v a:Nat)(m:Int):Gv s (s.mark v a m):=
 ⟨fun _ h=>h,Nat.le_refl _,fun i u hu=>by
  show ∃u',(s.vis.modify v fun x=>(x.1,x.2.set a m))[i]?=some u'/\_;rw[List.getElem?_modify,hu];by_cases h:v=i
  ·exact⟨(u.1,u.2.set a m),by simp[h],rfl,by simp⟩
  ·exact⟨u,by simp[h],rfl,rfl⟩⟩
theorem Inv.wrong(h:Inv S s)(S':List Src)(i:Nat)(kind:Int)(pos:Nat):Inv S (s.wrong S' i kind pos):=⟨h.ends,h.key,h.one,h.sub,h.zero,h.vis⟩
theorem Gv.wrong(s:Sr)(S':List Src)(i:Nat)(kind:Int)(pos:Nat):Gv s (s.wrong S' i kind pos):=⟨fun _ h=>h,Nat.le_refl _,fun _ u h=>⟨u,h,rfl,rfl⟩⟩
theorem Inv.grew{s':Sr}(h:Inv S s)(g:Grew S.length s s'):Inv S s'/\Gv s s':=
 ⟨⟨g.ok,by rw[g.nums];exact h.key,by rw[g.nums];exact h.one,by rw[g.nums];exact fun p hp=>(h.sub p hp).imp_right (g.has _),by rw[g.nums];exact h.zero,by rw[g.vis,g.nums];exact h.vis⟩,
  ⟨g.has,by rw[g.nums];exact Nat.le_refl _,by rw[g.vis];exact fun _ u h=>⟨u,h,rfl,rfl⟩⟩⟩
theorem qfh{α:Type}[DecidableEq α]:∀(l m:List α),l.Nodup->(∀x∈l,x∈m)->l.length<=m.length
 |[],m,_,_=>Nat.zero_le _
 |x::l,m,h,hs=>by
   obtain⟨h1,h2⟩:=List.nodup_cons.1 h;have hx:=hs x (by simp);have:=qfh l (m.erase x) h2 (fun y hy=>(List.mem_erase_of_ne (fun e=>h1 (by rw[<-e];exact hy))).2 (hs y (List.mem_cons_of_mem _ hy)));rw[List.length_erase_of_mem hx]at this;have hp:=List.length_pos_of_mem hx;simp only[List.length_cons];omega
theorem qij{α:Type}:∀ {l:List (En×α)},qjl l->(l.map (·.1)).Nodup
 |[],_=>List.nodup_nil
 |p::l,h=>by
   have ht:qjl l:=fun i j a b hi hj e=>by
    have:=h (i+1) (j+1) a b (by simpa using hi) (by simpa using hj) e;omega
   rw[List.map_cons,List.nodup_cons];refine⟨fun hm=>?_,qij ht⟩;obtain⟨q,hq,e⟩:=List.mem_map.1 hm;obtain⟨i,hi⟩:=List.getElem?_of_mem hq;have:=h 0 (i+1) p q rfl (by simpa using hi) e.symm;omega
theorem q4g{α:Type}{l:List (En×α)}(h:qa1 l e≠Option.none):e∈l.map (·.1):=by
 cases hg:qa1 l e with
 |none=>exact absurd hg h
 |some v=>exact List.mem_map.2 ⟨_,qe6 hg,rfl⟩
theorem Inv.few(h:Inv S s):s.nums.length<=s.ends.length+1:=by
 have:=qfh (s.nums.map (·.1)) ((0,Sx.start)::s.ends.map (·.1)) (qij h.one) (fun x hx=>by
  obtain⟨p,hp,rfl⟩:=List.mem_map.1 hx;rcases h.sub p hp with e|e
  ·rw[e];simp
  ·exact List.mem_cons_of_mem _ (q4g e))
 simpa using this
structure Pre(S:List Src)(s:Sr)(e:En):Prop where
 inv:Inv S s
 new:qa1 s.nums e=Option.none
 src:(e=(0,Sx.start)/\s.nums=[])\/(qa1 s.ends e≠Option.none/\1<=e.1/\s.nums≠[])
 fit:SxFit e.2
 lt:e.1<S.length
theorem Pre.begun(h:Pre S s e):Inv S (begun S s e)/\Gv s (begun S s e)/\(Pl.begun S s e).nums.length=s.nums.length+1:=by
 have ha:qa5 s.nums e s.vis.length=s.nums++[(e,s.vis.length)]:=qek h.new _;refine⟨⟨h.inv.ends,?_,?_,?_,?_,?_⟩,⟨fun _ q=>q,?_,?_⟩,?_⟩
 ·intro p hp
  rcases qhm hp with rfl|hp
  ·exact⟨h.fit,h.lt⟩
  ·exact h.inv.key p hp
 ·exact qkr h.inv.one _ _
 ·intro p hp
  rcases qhm hp with rfl|hp
  ·rcases h.src with q|q
   ·exact .inl q.1
   ·exact .inr q.1
  ·exact h.inv.sub p hp
 ·intro p hp h0
  rcases qhm hp with rfl|hp
  ·rcases h.src with q|q
   ·rw[q.1]
   ·exfalso
    have h0:s.vis.length=0:=h0;rw[h.inv.vis]at h0;exact q.2.2 (List.length_eq_zero_iff.1 h0)
  ·exact h.inv.zero p hp h0
 ·show(s.vis++[_]).length=(qa5 _ _ _).length
  rw[ha];simp[h.inv.vis]
 ·show s.nums.length<=(qa5 _ _ _).length
  rw[ha];simp
 ·intro i u hu
  refine⟨u,?_,rfl,rfl⟩;show(s.vis++[_])[i]?=some u;rw[List.getElem?_append_left (List.getElem?_eq_some_iff.1 hu).1];exact hu
 ·show(qa5 _ _ _).length=_
  rw[ha];simp
def NmOk(S:List Src)(nm:Sr->List UInt8->Sx->Sr×Nat×Sx)(m:Nat):Prop:=∀s t x,Inv S s->m<=s.nums.length->SxFit x->Inv S (nm s t x).1/\Gv s (nm s t x).1/\qp8 (nm s t x).2.2
theorem zas{nm:Sr->List UInt8->Sx->Sr×Nat×Sx}{m:Nat}(Ha:NmOk S nm m)(i v:Nat)(P:List Pt):∀(n a:Nat) (s:Sr) (x:Sx) (B:List (Sx×Nat)),Inv S s->m<=s.nums.length->SxFit x->(∀b∈B,SxFit b.1)->Inv S (goV nm S i v P n a s x B)/\Gv s (goV nm S i v P n a s x B):=by
 intro n
 induction n with
 |zero=>intro a s x B h _ _ _;exact⟨h,Gv.refl s⟩
 |succ n ih=>
   intro a s x B h hm hx hB;unfold goV;cases hp:P[a]? with
   |none=>exact⟨h,Gv.refl s⟩
   |some p=>
     simp only;split
     ·split
      ·exact⟨h.wrong _ _ _ _,Gv.wrong _ _ _ _ _⟩
      ·exact ih _ s _ B h hm (qhf _ _ hx) hB
     ·split
      ·split
       ·exact⟨h.wrong _ _ _ _,Gv.wrong _ _ _ _ _⟩
       ·obtain⟨h1,h2⟩:=ih (a+1) (s.mark v a x.hole.1) x.behindHole B (h.mark _ _ _) hm (qim hx) hB
        exact⟨h1,(Gv.mark s v a _).trans h2⟩
      ·split
       ·exact ih _ s x _ h hm hx (fun b hb=>by
         rcases List.mem_append.1 hb with hb|hb
         ·exact hB b hb
         ·simp at hb;subst hb;exact hx)
       ·split
        ·split
         ·exact⟨h,Gv.refl s⟩
         ·split
          ·exact⟨h.wrong _ _ _ _,Gv.wrong _ _ _ _ _⟩
          ·exact ih _ s x _ h hm hx (fun b hb=>hB b ((List.dropLast_sublist _).subset hb))
        ·split
         ·obtain⟨h1,h2,h3⟩:=Ha s p.text x h hm hx
          have g1:=h1.mark v a ((nm s p.text x).2.1:Nat);have g2:=h2.trans (Gv.mark (nm s p.text x).1 v a ((nm s p.text x).2.1:Nat));have ha:m<=((nm s p.text x).1.mark v a ((nm s p.text x).2.1:Nat)).nums.length:=Nat.le_trans hm h2.nums;split
          ·exact⟨g1,g2⟩
          ·split
           ·rename_i Hb
            obtain⟨k1,k2⟩:=ih (a+1) _ _ B g1 ha (qkv h3 (by rw[Hb];simp)) hB;exact⟨k1,g2.trans k2⟩
           ·split
            ·exact⟨g1,g2⟩
            ·rename_i b hb
             obtain⟨k1,k2⟩:=ih b.2 _ b.1 B g1 ha (hB b (List.mem_of_getLast? hb)) hB;exact⟨k1,g2.trans k2⟩
         ·exact ih _ s x B h hm hx hB
theorem q7k(S:List Src)(k:Nat)(s:Sr)(n:List UInt8)(x:Sx)(h0:qai S n≠0):qa1 (behV S (k+1) s n x).1.ends (qai S n,x)≠Option.none\/(behV S (k+1) s n x).1.fault=qq6:=by
 unfold behV;rw[if_neg h0];cases hg:qa1 s.ends (qai S n,x)with
 |some e=>exact .inl (by simp[hg])
 |none=>
   simp only;split
   ·exact .inr rfl
   ·refine .inl ?_
    show qa1 (qa5 _ _ _) _≠_;rw[qel,if_pos rfl];simp
theorem qy5{n:List UInt8}{x:Sx}(h:Inv S s)(h1:1<=s.nums.length)(hx:SxFit x)(h0:qai S n≠0)(hf:(behV S 257 s n x).1.fault.code=0)(hz:qg1 (behV S 257 s n x).1 (qai S n,x)=0):Pre S (behV S 257 s n x).1 (qai S n,x):=by
 obtain⟨g1,g2⟩:=qgd S 257 0 (by omega) s n x h.ends (Nat.zero_le _) hx;obtain⟨i1,i2⟩:=h.grew g1;have ha:=qe4 S n h0;refine⟨i1,?_,.inr ⟨?_,ha.1,fun e=>?_⟩,hx,ha.2⟩
 ·cases hg:qa1 (behV S 257 s n x).1.nums (qai S n,x)with
  |none=>rfl
  |some v=>
    exfalso;have hv:v=0:=by
     unfold qg1 at hz;rw[hg]at hz;exact hz
    have:=i1.zero _ (qe6 hg) hv;simp only at this;omega
 ·rcases q7k S 256 s n x h0 with q|q
  ·exact q
  ·rw[q]at hf;cases hf
 ·rw[g1.nums]at e;rw[e]at h1;simp at h1
theorem qr5(S:List Src):∀(k:Nat) (s:Sr) (e:En),Pre S s e->258<=s.nums.length+k->Inv S (qfs S k s e)/\Gv s (qfs S k s e):=by
 intro k
 induction k with
 |zero=>
   intro s e h hk;have:=h.inv.few;have:=h.inv.ends.few;omega
 |succ k ih=>
   intro s e h hk;rw[qla];obtain⟨b1,b2,b3⟩:=h.begun;have ha:NmOk S (nmV S k) (s.nums.length+1):=by
    intro s' t x h' hm hx;obtain⟨g1,g2⟩:=qgd S 257 0 (by omega) s' t x h'.ends (Nat.zero_le _) hx;obtain⟨i1,i2⟩:=h'.grew g1;unfold nmV;simp only;split
    ·exact⟨i1,i2,g2⟩
    ·rename_i hc
     split
     ·rename_i hz
      have hp:=qy5 h' (by omega) hx (fun q=>hc (.inl q)) (by cases hq:(behV S 257 s' t x).1.fault.code with|zero=>rfl|succ n=>exact absurd (.inr (by rw[hq];simp)) hc) hz;obtain⟨j1,j2⟩:=ih _ _ hp (by rw[g1.nums];omega);exact⟨j1,i2.trans j2,g2⟩
     ·exact⟨i1,i2,g2⟩
   obtain⟨k1,k2⟩:=zas ha e.1 s.vis.length (qab S e.1) ((qab S e.1).length+1) 0 (Pl.begun S s e) e.2 [] b1 (by omega) h.fit (fun b hb=>by cases hb);exact⟨k1,b2.trans k2⟩
theorem zap(S:List Src)(k m:Nat)(hk:258<=m+k)(h1:1<=m):NmOk S (nmV S k) m:=by
 intro s' t x h' hm hx;obtain⟨g1,g2⟩:=qgd S 257 0 (by omega) s' t x h'.ends (Nat.zero_le _) hx;obtain⟨i1,i2⟩:=h'.grew g1;unfold nmV;simp only;split
 ·exact⟨i1,i2,g2⟩
 ·rename_i hc
  split
  ·rename_i hz
   have hp:=qy5 h' (by omega) hx (fun q=>hc (.inl q)) (by cases hq:(behV S 257 s' t x).1.fault.code with|zero=>rfl|succ n=>exact absurd (.inr (by rw[hq];simp)) hc) hz;obtain⟨j1,j2⟩:=qr5 S k _ _ hp (by rw[g1.nums];omega);exact⟨j1,i2.trans j2,g2⟩
  ·exact⟨i1,i2,g2⟩
end Go.Proofs.YtfkhljmiehdgmaaGreatDoor.Pl
namespace Go.Proofs.YtfkhljmiehdgmaaGreatDoor
open Go.RowKit
variable{w:World}{g:Nat}
theorem q47(w:World):Calls Tryz.prog 62 #[] w fun e w'=>e=.returned (qap Pl.Sx.start)/\w.alloc (.cells (qaf Pl.Sx.start) 162)=w':=by
 go_enter Tryz.func62,Tryz.ntmps62
 go_wp2
 refine qb4 Tryz.results62 w.heap.size _ _ Tryz.underlying162 rfl rfl (heap_alloc_new _ _) (by kernel_rfl) rfl ?_;exact⟨rfl,rfl⟩
theorem SxAt.other{s:Pl.Sx}(h:SxAt w g s)(p:Addr)(v:Value)(hp:p.block≠g):SxAt (w.setCell p v) g s:=by
 have e:∀j,p≠⟨g,j,none⟩:=fun j q=>hp (by rw[q]);exact⟨(World.cell?_setCell_other _ _ _ _ (e _)).trans h.mode,(World.cell?_setCell_other _ _ _ _ (e _)).trans h.name,(World.cell?_setCell_other _ _ _ _ (e _)).trans h.elem,(World.cell?_setCell_other _ _ _ _ (e _)).trans h.kind,(World.cell?_setCell_other _ _ _ _ (e _)).trans h.read,(World.cell?_setCell_other _ _ _ _ (e _)).trans h.ref,(World.cell?_setCell_other _ _ _ _ (e _)).trans h.esc,(World.cell?_setCell_other _ _ _ _ (e _)).trans h.hex,(World.cell?_setCell_other _ _ _ _ (e _)).trans h.pct,(World.cell?_setCell_other _ _ _ _ (e _)).trans h.far⟩
theorem q0e(h:qdg 10 w g)(s:Pl.Sx):SxAt (qcs w g (.int .u8 (s.st.mode:Int)) (.string ⟨s.st.name.toArray⟩) (.string ⟨s.st.elem.toArray⟩) (.int .i64 s.st.kind) (.int .i64 (s.st.read:Int)) (.bool s.ma.ref) (.bool s.st.esc) (.int .i64 s.ma.hex) (.int .i64 s.ma.pct) (.int .i64 s.ma.far)) g s:=
 ⟨qcz h _ _ _ _ _ _ _ _ _ _ 0 _ rfl,qcz h _ _ _ _ _ _ _ _ _ _ 1 _ rfl,qcz h _ _ _ _ _ _ _ _ _ _ 2 _ rfl,qcz h _ _ _ _ _ _ _ _ _ _ 3 _ rfl,qcz h _ _ _ _ _ _ _ _ _ _ 4 _ rfl,qcz h _ _ _ _ _ _ _ _ _ _ 5 _ rfl,qcz h _ _ _ _ _ _ _ _ _ _ 6 _ rfl,qcz h _ _ _ _ _ _ _ _ _ _ 7 _ rfl,qcz h _ _ _ _ _ _ _ _ _ _ 8 _ rfl,qcz h _ _ _ _ _ _ _ _ _ _ 9 _ rfl⟩
theorem qt1(h:qdg 10 w g)(v0 v1 v2 v3 v4 v5 v6 v7 v8 v9:Value):qdg 10 (qcs w g v0 v1 v2 v3 v4 v5 v6 v7 v8 v9) g:=by
 rw[qnt];exact qt2 g g _ _ _ h
structure Round(w0 w:World)(G:Nat)(s:ByteArray)(k:Nat):Prop where
 row:w.ownsRow w0.heap.size 3 1 (.slice (some ⟨w0.heap.size,0,none⟩) s.size s.size) s.size (qil (Pl.qee Pl.St.start (s.data.toList.take k))++List.replicate (s.size - k) (.int .i64 0))
 at':SxAt w G (Pl.qav Pl.Sx.start (s.data.toList.take k))
 slot:qdg 10 w G
 below:Below w0.heap.size w0 w
 gt:w0.heap.size<G
theorem Round.step{w0 w2:World}{G:Nat}{s:ByteArray}{k:Nat}(h:Round w0 w G s k)(hk:k<s.size)(Y:Pl.Sx)(hY:Y=(Pl.qav Pl.Sx.start (s.data.toList.take k)).behind s[k])(hb:Below w.heap.size w.drew w2) :
  SxAt (qcs w2 G (.int .u8 (Y.st.mode:Int)) (.string ⟨Y.st.name.toArray⟩) (.string ⟨Y.st.elem.toArray⟩) (.int .i64 Y.st.kind) (.int .i64 (Y.st.read:Int)) (.bool Y.ma.ref) (.bool Y.st.esc) (.int .i64 Y.ma.hex) (.int .i64 Y.ma.pct) (.int .i64 Y.ma.far)) G Y /\
  (qcs w2 G (.int .u8 (Y.st.mode:Int)) (.string ⟨Y.st.name.toArray⟩) (.string ⟨Y.st.elem.toArray⟩) (.int .i64 Y.st.kind) (.int .i64 (Y.st.read:Int)) (.bool Y.ma.ref) (.bool Y.st.esc) (.int .i64 Y.ma.hex) (.int .i64 Y.ma.pct) (.int .i64 Y.ma.far)).cell? ⟨w0.heap.size,k,none⟩=some (.int .i64 0) /\
  w2.frozen? ⟨w0.heap.size,k,none⟩=false/\qdg 10 w2 G /\
  Round w0 ((qcs w2 G (.int .u8 (Y.st.mode:Int)) (.string ⟨Y.st.name.toArray⟩) (.string ⟨Y.st.elem.toArray⟩) (.int .i64 Y.st.kind) (.int .i64 (Y.st.read:Int)) (.bool Y.ma.ref) (.bool Y.st.esc) (.int .i64 Y.ma.hex) (.int .i64 Y.ma.pct) (.int .i64 Y.ma.far)).setCell ⟨w0.heap.size,k,none⟩ (.int .i64 (Y.st.mode:Int))) G s (k+1):=by
 have hc:=h.gt;have hg:=h.below.size;have Hb:(qil (Pl.qee Pl.St.start (s.data.toList.take k))).length=k:=by rw[quw,Pl.qsm,Pl.qyt s k (by omega)]
 have Hc:qdg 10 w2 G:=h.slot.drew.kept hb h.slot.lt;have Hg:Below w0.heap.size w0 w2:=h.below.drew.trans (hb.mono hg);have ha:w2.ownsRow w0.heap.size 3 1 (.slice (some ⟨w0.heap.size,0,none⟩) s.size s.size) s.size _:=qlf h.row (hb.block w0.heap.size (Nat.lt_trans hc h.slot.lt));have he:Y.st=(Pl.qtz Pl.St.start (s.data.toList.take k)).behind s[k]:=by rw[hY];show((Pl.qav Pl.Sx.start (s.data.toList.take k)).st).behind _=_;rw[Pl.q2w];rfl
 generalize hV:(qcs w2 G (.int .u8 (Y.st.mode:Int)) (.string ⟨Y.st.name.toArray⟩) (.string ⟨Y.st.elem.toArray⟩) (.int .i64 Y.st.kind) (.int .i64 (Y.st.read:Int)) (.bool Y.ma.ref) (.bool Y.st.esc) (.int .i64 Y.ma.hex) (.int .i64 Y.ma.pct) (.int .i64 Y.ma.far))=V;have He:Below G w2 V:=by rw[<-hV];exact qei (Below.refl _ _) (Nat.le_refl _) _ _ _ _ _ _ _ _ _ _
 have hi:qdg 10 V G:=by rw[<-hV];exact qt1 Hc _ _ _ _ _ _ _ _ _ _
 have hf:SxAt V G Y:=by rw[<-hV];exact q0e Hc Y
 have Ha:=qlf ha (He.block w0.heap.size hc);have Hf:=Ha.stored k (.int .i64 (Y.st.mode:Int));rw[q5w _ _ _ _ _ Hb hk]at Hf;refine⟨hf,?_,ha.frozenAt k,Hc,?_,?_,hi.set _ _,?_,hc⟩
 ·rw[Ha.cellAt k (by omega),List.getElem?_append_right (by omega),Hb,Nat.sub_self,List.getElem?_replicate,if_pos (by omega)]
 ·have:=Hf.1
  rw[Pl.qc9 s k hk,Pl.qp4,qsu,<-he];exact this
 ·rw[Pl.qc9 s k hk,Pl.qkg,<-hY]
  exact hf.other _ _ (by simp;omega)
 ·exact(Hg.trans (He.mono (Nat.le_of_lt hc))).setCell (p:=⟨w0.heap.size,k,none⟩) (Nat.le_refl _) _
end Go.Proofs.YtfkhljmiehdgmaaGreatDoor
namespace Go.Proofs.YtfkhljmiehdgmaaGreatDoor.Pl
theorem qw0(l:List UInt8):(qa9 l).kind=qa0 l:=by
 have hn:∀k n,(qca k n).kind=k:=by
  intro k n;unfold qca;split<;>split<;>rfl
 unfold qa9;by_cases h7:qa0 l=7
 ·rw[if_pos h7,h7]
 rw[if_neg h7];by_cases h8:qa0 l=8
 ·rw[if_pos h8,h8]
  unfold qdc;split
  ·rfl
  ·split
   ·split<;>rfl
   ·rfl
 rw[if_neg h8];split
 ·rename_i h2;rw[hn,h2]
 ·exact hn _ _
def tx(u:List UInt8)(y:Sx×List Sx):Option (Sx×List Sx):=match qbj y.1 u with
 |some _=>Option.none
 |Option.none=>some (qav y.1 u,y.2)
deriving instance DecidableEq for Tg
variable{t:List UInt8}{c:Ct}{a:Nat}
structure PtIn(t:List UInt8)(p:Pt):Prop where
 pos:p.pos<=t.length
 text:p.kind=1->p.pos+p.text.length<=t.length
 name:p.kind=6->p.text <:+: t
theorem qrl{z:Nat}(h:∀p∈c.parts,PtIn t p)(ha:a<=t.length):∀p∈(c.addText t a z).parts,PtIn t p:=by
 unfold Ct.addText;split
 ·intro p hp
  simp only[List.mem_append,List.mem_singleton]at hp;rcases hp with hp|rfl
  ·exact h p hp
  ·refine⟨ha,fun _=>?_,fun e=>by cases e⟩
   simp only[List.length_take,List.length_drop];omega
 ·exact h
theorem q0n{l:List Pt}(m n:Nat)(h:∀p∈l,PtIn t p):∀p∈qbc l m n,PtIn t p:=by
 induction l generalizing m with
 |nil=>unfold qbc;simp
 |cons q l ih=>
   cases m with
   |zero=>
     intro p hp;have e:qbc (q::l) 0 n={ q with mate:=n }::l:=rfl;rw[e]at hp;rcases List.mem_cons.1 hp with rfl|hp
     ·have:=h q (by simp);exact⟨this.pos,this.text,this.name⟩
     ·exact h p (List.mem_cons_of_mem _ hp)
   |succ m=>
     intro p hp;have e:qbc (q::l) (m+1) n=q::qbc l m n:=by simp[qbc]
     rw[e]at hp;rcases List.mem_cons.1 hp with rfl|hp
     ·exact h p (by simp)
     ·exact ih m (fun r hr=>h r (List.mem_cons_of_mem _ hr)) p hp
theorem q8h{one:Tg}(h:∀p∈c.parts,PtIn t p)(ha:a<=t.length)(hk:one.kind≠1)(hn:one.kind=6->one.name <:+: t):∀p∈(c.take one a).2.parts,PtIn t p:=by
 have hb:PtIn t ⟨one.kind,a,one.name,0⟩:=⟨ha,fun e=>absurd e hk,hn⟩;have Ha:∀(l:List Pt) (q:Pt),(∀p∈l,PtIn t p)->PtIn t q->∀p∈l++[q],PtIn t p:=fun l q hl hq p hp=>by
  simp only[List.mem_append,List.mem_singleton]at hp;rcases hp with hp|rfl
  ·exact hl p hp
  ·exact hq
 unfold Ct.take;by_cases h1:one.slip≠0
 ·rw[if_pos h1];exact h
 rw[if_neg h1];by_cases h7:one.kind=7
 ·rw[if_pos h7];exact h
 rw[if_neg h7];by_cases h8:one.kind=8
 ·rw[if_pos h8];exact h
 rw[if_neg h8];by_cases Hb:one.kind=3\/one.kind=4
 ·rw[if_pos Hb]
  split
  ·exact h
  ·exact Ha _ _ h hb
 rw[if_neg Hb];by_cases h5:one.kind=5
 ·rw[if_pos h5]
  split
  ·exact h
  ·rename_i m _
   split
   ·exact h
   ·exact Ha _ _ (q0n _ _ h) ⟨ha,(fun e=>by cases e),(fun e=>by cases e)⟩
 ·rw[if_neg h5]
  exact Ha _ _ h hb
theorem qoe(l cs:List UInt8):Go.Lib.trimS l cs <:+: l:=by
 unfold Go.Lib.trimS Go.Lib.trimLeftS Go.Lib.trimRightS;refine(List.dropWhile_suffix _).isInfix.trans ?_;have:=(List.dropWhile_suffix (cs.contains ·) (l:=l.reverse)).isInfix;rw[<-List.reverse_infix,List.reverse_reverse];exact this
theorem qwz(l:List UInt8)(h:(qa9 l).kind=6):(qa9 l).name <:+: l:=by
 rw[qw0]at h;unfold qa9;rw[if_neg (by omega),if_neg (by omega),if_neg (by omega)];unfold qca;rw[if_pos h];split
 ·unfold Go.Lib.trimLeftS
  exact(List.dropWhile_suffix _).isInfix.trans (List.drop_suffix _ _).isInfix
 ·exact List.nil_infix
theorem q8k(hc:CtOk t c a)(h:∀p∈c.parts,PtIn t p) :
  (∀k p,c.step t a=.slip k p->p<=t.length)/\(∀d,c.step t a=.over d->∀p∈d.parts,PtIn t p)/\(∀d b,c.step t a=.next d b->∀p∈d.parts,PtIn t p):=by
 have hb:=hc.le;cases ha:(Go.Lib.cut (t.drop a) c.op).2.2 with
 |false=>
   rw[qlc ha];refine⟨fun k p e=>(by cases e),fun d e=>?_,fun d b e=>(by cases e)⟩;injection e with e;subst e;exact qrl h hb
 |true=>
   obtain⟨i1,hf,Hb,Hf,Hc,hg⟩:=qjg _ _ ha;rw[List.length_drop]at Hb;cases Ha:(Go.Lib.cut (Go.Lib.cut (t.drop a) c.op).2.1 c.cl).2.2 with
   |false=>
     rw[qgm ha Ha];refine⟨fun k p e=>?_,fun d e=>(by cases e),fun d b e=>(by cases e)⟩;injection e with e1 e2;omega
   |true=>
     obtain⟨i2,Hg,hi,he,Hi,hj⟩:=qjg _ _ Ha;obtain⟨one,h1⟩:∃one,qa9 (Go.Lib.trimS (Go.Lib.cut (Go.Lib.cut (t.drop a) c.op).2.1 c.cl).1 qah)=one:=⟨_,rfl⟩;have ho:=qos (Go.Lib.trimS (Go.Lib.cut (Go.Lib.cut (t.drop a) c.op).2.1 c.cl).1 qah);have hn:=qwz (Go.Lib.trimS (Go.Lib.cut (Go.Lib.cut (t.drop a) c.op).2.1 c.cl).1 qah);have He:Go.Lib.trimS (Go.Lib.cut (Go.Lib.cut (t.drop a) c.op).2.1 c.cl).1 qah <:+: t:=by
      refine(qoe _ _).trans ?_;rw[he];refine(List.take_prefix _ _).isInfix.trans ?_;rw[Hc];exact(List.drop_suffix _ _).isInfix.trans (List.drop_suffix _ _).isInfix
     rw[h1]at ho hn;generalize hO:(if one.kind≠2 then qeg t (a+(Go.Lib.cut (t.drop a) c.op).1.length) (a+(Go.Lib.cut (t.drop a) c.op).1.length+c.op.length+(Go.Lib.cut (Go.Lib.cut (t.drop a) c.op).2.1 c.cl).1.length+c.cl.length)else(a+(Go.Lib.cut (t.drop a) c.op).1.length,a+(Go.Lib.cut (t.drop a) c.op).1.length+c.op.length+(Go.Lib.cut (Go.Lib.cut (t.drop a) c.op).2.1 c.cl).1.length+c.cl.length))=o;rw[qnq ha Ha one h1 _ _ rfl rfl o hO];have hp:a+(Go.Lib.cut (t.drop a) c.op).1.length<=t.length:=by omega
     have hk:=ho.kind;refine⟨fun k p e=>?_,fun d e=>?_,fun d b e=>?_⟩
     ·split at e
      ·injection e with e1 e2;omega
      ·cases e
     ·split at e<;>cases e
     ·split at e
      ·cases e
      ·injection e with e1 e2
       subst e1;exact q8h (qrl h hb) hp (by omega) (fun h6=>(hn h6).trans He)
theorem q9d(h:∀p∈c.parts,PtIn t p):c.left.2<=t.length:=by
 unfold Ct.left;split
 ·exact Nat.zero_le _
 ·rename_i m _
  show qi4 c.parts m<=_;unfold qi4;split
  ·rename_i p hp;exact(h p (List.mem_of_getElem? hp)).pos
  ·exact Nat.zero_le _
theorem za8(t:List UInt8):∀(n:Nat) (c:Ct) (a:Nat),CtOk t c a->(∀p∈c.parts,PtIn t p)->(Ct.go t n c a).1.2<=t.length/\∀p∈(Ct.go t n c a).2,PtIn t p:=by
 intro n
 induction n with
 |zero=>intro c a _ _;exact⟨Nat.zero_le _,fun p hp=>by cases hp⟩
 |succ n ih=>
   intro c a hc h;obtain⟨h1,h2,h3⟩:=q8k hc h;unfold Ct.go;cases hs:c.step t a with
   |slip k p=>exact⟨h1 k p hs,fun p hp=>by cases hp⟩
   |over d=>exact⟨q9d (h2 d hs),h2 d hs⟩
   |next d b=>exact ih d b (qga hc hs).1 (h3 d b hs)
theorem q4x(t:List UInt8):(qam t).1.2<=t.length/\∀p∈(qam t).2,PtIn t p:=by
 have h:=za8 t (t.length+1) Ct.start 0 (qh4 t) (fun p hp=>by cases hp);unfold qam;split
 ·exact⟨Nat.zero_le _,fun p hp=>by cases hp⟩
 ·split
  ·exact⟨Nat.zero_le _,h.2⟩
  ·exact⟨h.1,fun p hp=>by cases hp⟩
variable{t n:List UInt8}{L:List (List UInt8×List UInt8)}
deriving instance DecidableEq for Pt
theorem qv5(P:List Pt):qz1 [⟨[],P⟩] P:=fun _ _ _=>rfl
theorem qq0(h6:L.length<=6)(ha:qg7 (L.map (·.1))=true):qe9 t L =
  if(qa4 (([],t)::L)).1.code≠0 then(([],[]),(qa4 (([],t)::L)).1)else
  if(qef (qa4 (([],t)::L)).2 t.length).2.code≠0 then(([],[]),(qef (qa4 (([],t)::L)).2 t.length).2)
  else(((qef (qa4 (([],t)::L)).2 t.length).1,(qa4 (([],t)::L)).2),Ft.none):=by
 unfold qe9;rw[if_neg (fun q=>q.elim (fun q=>absurd h6 (by omega)) (fun q=>by rw[ha]at q;cases q))]
theorem qnc(h:(qam t).1.1≠0):qa4 ((n,t)::L)=(⟨2,(qam t).1.1,n,(qam t).1.2⟩,[]):=by
 unfold qa4;rw[if_pos h]
theorem qx6(h:(qam t).1.1=0):qa4 [(n,t)]=(Ft.none,[⟨n,(qam t).2⟩]):=by
 unfold qa4;rw[if_neg (fun q=>q h)];rfl
theorem quk(hc:(qam t).1.1=0)(hf:qeo (qam t).2 Sx.start []=some (Sx.start,[])):(qe9 t []).2=Ft.none:=by
 rw[qq0 (by simp) rfl,qx6 hc,if_neg (by simp[Ft.none])];have hl:=qxh [⟨[],(qam t).2⟩] t.length (qpj t hc).1 (qv5 _);have e:qab [⟨[],(qam t).2⟩] 0=(qam t).2:=rfl;rw[e,hf]at hl;rw[if_neg (by rw[(hl.1 rfl).1];decide)]
end Go.Proofs.YtfkhljmiehdgmaaGreatDoor.Pl
namespace Go.Proofs.YtfkhljmiehdgmaaGreatDoor
open Go.RowKit
namespace Pl
theorem qe8:∀N:List (List UInt8),qg7 N=true↔∀(i:Nat) (x:List UInt8),N[i]?=some x->qa6 x=true/\∀j:Nat,j<i->N[j]?≠some x
 |[]=>by simp[qg7]
 |n::l=>by
   unfold qg7;simp only[Bool.and_eq_true,Bool.not_eq_true',qe8 l];constructor
   ·rintro⟨h1,h2,h3⟩ i x hx
    cases i with
    |zero=>
      simp only[List.getElem?_cons_zero,Option.some.injEq]at hx;subst hx;exact⟨h1,fun j hj=>absurd hj (Nat.not_lt_zero _)⟩
    |succ i=>
      simp only[List.getElem?_cons_succ]at hx;refine⟨(h3 i x hx).1,fun j hj=>?_⟩;cases j with
      |zero=>
        simp only[List.getElem?_cons_zero,ne_eq,Option.some.injEq];rintro rfl;have:l.contains n=true:=List.contains_iff_mem.2 (List.mem_of_getElem? hx);rw[this]at h2;cases h2
      |succ j=>
        simp only[List.getElem?_cons_succ];exact(h3 i x hx).2 j (by omega)
   ·intro h
    refine⟨(h 0 n rfl).1,?_,fun i x hx=>⟨(h (i+1) x (by simpa using hx)).1,fun j hj=>?_⟩⟩
    ·rw[Bool.eq_false_iff]
     intro q;obtain⟨i,hi⟩:=List.getElem?_of_mem (List.contains_iff_mem.1 q);exact(h (i+1) n (by simpa using hi)).2 0 (by omega) rfl
    ·have:=(h (i+1) x (by simpa using hx)).2 (j+1) (by omega)
     simpa using this
end Pl
structure PsAt(w:World)(b:Nat)(L:List (ByteArray×ByteArray)):Prop where
 name:∀k x,L[k]?=some x->w.cell? ⟨b,k*2,none⟩=some (.string x.1)
 text:∀k x,L[k]?=some x->w.cell? ⟨b,k*2+1,none⟩=some (.string x.2)
def qbh(L:List (ByteArray×ByteArray)):List (List UInt8):=L.map fun x=>x.1.data.toList
theorem q7h{a b:ByteArray}(h:a≠b):(a.toList==b.toList)=false:=by
 rw[beq_eq_false_iff_ne,ByteArray.toList_eq,ByteArray.toList_eq];exact fun q=>h (ByteArray.ext (Array.toList_inj.1 q))
theorem q06{L:List (ByteArray×ByteArray)}{k:Nat}{x:List UInt8}(h:(qbh L)[k]?=some x):∃y,L[k]?=some y/\y.1.data.toList=x:=by
 unfold qbh at h;rw[List.getElem?_map]at h;obtain⟨y,h1,h2⟩:=Option.map_eq_some_iff.1 h;exact⟨y,h1,h2⟩
theorem qv1(ao:Option Addr)(cap:Nat)(w:World) :
  Calls Tryz.prog 43 #[.slice ao 0 cap] w fun e w'=>e=.returned (.bool true)/\w=w':=by
 go_enter Tryz.func43,Tryz.ntmps43
 go_wp2_with fail
 go_loop [10] (fun i=>i=.int .i64 0) (fun _=>0)
 case atStart=>rfl
 case round=>
  obtain rfl:=hrel;go_wp2
  go_ret
  exact⟨rfl,rfl⟩
theorem qv2(ao:Option Addr)(n cap:Nat)(w:World)(hn:6<n) :
  Calls Tryz.prog 43 #[.slice ao n cap] w fun e w'=>e=.returned (.bool false)/\w=w':=by
 have c1:(6:Int)<(n:Int):=by omega
 clear hn;go_enter Tryz.func43,Tryz.ntmps43
 go_wp2_with fail
 go_ret
 exact⟨rfl,rfl⟩
theorem qv0(b cap:Nat)(L:List (ByteArray×ByteArray))(w:World)(h:PsAt w b L)(hn:L.length<=6) :
  Calls Tryz.prog 43 #[.slice (some ⟨b,0,none⟩) L.length cap] w fun e w'=>e=.returned (.bool (Pl.qg7 (qbh L)))/\∃m,w'=w.drewN m:=by
 have HA:=(show Hid (PsAt w b L)from h);have c1:¬(6:Int)<(L.length:Int):=by omega
 clear h;go_enter Tryz.func43,Tryz.ntmps43
 go_wp2_with fail
 clear c1;go_loopw [10] (fun i wr=>∃k:Nat,k<=L.length/\i=.int .i64 k/\Hid (∀i x,i<k->(qbh L)[i]?=some x->Pl.qa6 x=true/\∀j,j<i->(qbh L)[j]?≠some x)/\∃m,wr=w.drewN m) (fun i _=>L.length - (intOf i).toNat)
 case atStart=>exact⟨0,Nat.zero_le _,rfl,fun i x hi=>absurd hi (Nat.not_lt_zero _),0,rfl⟩
 case round=>
  obtain⟨k,hk,rfl,HN,m,rfl⟩:=hrel;by_cases hb:k<L.length
  rotate_left
  ·have HT:Hid (Pl.qg7 (qbh L)=true):=(Pl.qe8 _).2 fun i x hx=>HN.out i x (by
    have:=(List.getElem?_eq_some_iff.1 hx).1;unfold qbh at this;simp at this;omega) hx
   clear HN HA;go_wp2
   go_ret
   exact⟨qbo HT.out.symm,m,rfl⟩
  have hx:L[k]?=some L[k]:=List.getElem?_eq_getElem hb;have HX:=(show Hid (L[k]?=some L[k])from hx);have q0:w.cell? ⟨b,k*2,none⟩=some (.string L[k].1):=HA.out.name k _ hx;have Ha:(qbh L)[k]?=some L[k].1.data.toList:=by unfold qbh;simp[hx]
  have ha:=hd Ha;clear hx Ha;generalize L[k]=X at q0 HX ha;by_cases hi:Pl.qa6 X.1.data.toList=true
  rotate_left
  ·have hi:=Bool.eq_false_iff.2 hi
   have HT:Hid (Pl.qg7 (qbh L)=false):=by
    show _=_;rw[Bool.eq_false_iff];intro q;have:=((Pl.qe8 _).1 q k _ ha.out).1;rw[hi]at this;cases this
   clear HN HA HX ha;go_wp2_with (go_at_call 72;refine(qc7 X.1 _).mono ?_;rintro e w' ⟨rfl,rfl⟩;rw[hi])
   go_ret
   exact⟨qbo HT.out.symm,m,rfl⟩
  have HI:=hd hi;go_wp2_with (go_at_call 72;refine(qc7 X.1 _).mono ?_;rintro e w' ⟨rfl,rfl⟩;rw[hi])
  clear hi q0;go_hide hQ
  have HQ:=hd hQ;clear hQ;go_loopw [21] (fun i wr=>∃j:Nat,j<=k/\i=.int .i64 j/\Hid (∀j',j'<j->(qbh L)[j']?≠some X.1.data.toList)/\Hid (∃m',wr=w.drewN m')) (fun i _=>k - (intOf i).toNat)
  case atStart=>exact⟨0,Nat.zero_le _,rfl,fun j' hj=>absurd hj (Nat.not_lt_zero _),m,rfl⟩
  case round=>
   obtain⟨j,hj,rfl,HJ,HW⟩:=hrel;obtain⟨m',rfl⟩:=HW.out;clear HW;by_cases Hb:j<k
   ·have hc:j<L.length:=by omega
    have hy:L[j]?=some L[j]:=List.getElem?_eq_getElem hc;have HY:=(show Hid (L[j]?=some L[j])from hy);have p0:w.cell? ⟨b,j*2,none⟩=some (.string L[j].1):=HA.out.name j _ hy;have p1:w.cell? ⟨b,k*2,none⟩=some (.string X.1):=HA.out.name k _ HX.out;clear hy;generalize L[j]=Y at p0 HY;have d1:(j:Int)<(L.length:Int):=by omega
    have d2:(k:Int)<(L.length:Int):=by omega
    by_cases e0:Y.1=X.1
    ·have HT:Hid (Pl.qg7 (qbh L)=false):=by
      show _=_;rw[Bool.eq_false_iff];intro q;refine((Pl.qe8 _).1 q k _ ha.out).2 j Hb ?_;show(qbh L)[j]?=some X.1.data.toList;unfold qbh;rw[List.getElem?_map,HY.out,<-e0];rfl
     rw[e0]at p0;clear HN HA HX ha HJ HY e0;go_wp2_with fail
     go_quiet (fail)
     go_wp2_with fail
     rw[<-HQ.out];go_wp2_with fail
     go_ret
     exact⟨qbo HT.out.symm,m'+nq,by rw[World.drewN_drewN]⟩
    ·have t0:=q7h e0
     have Hc:Hid (∀j',j'<j+1->(qbh L)[j']?≠some X.1.data.toList):=by
      intro j' hg;by_cases he:j'=j
      ·subst he
       intro q;obtain⟨y,h1,h2⟩:=q06 q;rw[HY.out]at h1;obtain rfl:=Option.some.inj h1;exact e0 (ByteArray.ext (Array.toList_inj.1 h2))
      ·exact HJ.out j' (by omega)
     clear HN HX ha HJ HY e0;go_wp2_with fail
     go_quiet (fail)
     go_wp2_with fail
     go_roundw
     case rel=>exact⟨j+1,by omega,by go_num,Hc,⟨m'+nq,by simp[World.drewN]⟩⟩
     case measure=>simp[intOf];omega
   ·have He:j=k:=by omega
    subst He;have hf:Hid (∀i x,i<j+1->(qbh L)[i]?=some x->Pl.qa6 x=true/\∀j',j'<i->(qbh L)[j']?≠some x):=by
     intro i x Hg hx;by_cases Hf:i=j
     ·subst Hf
      rw[ha.out]at hx;obtain rfl:=Option.some.inj hx;exact⟨HI.out,HJ.out⟩
     ·exact HN.out i x (by omega) hx
    clear HN HX ha HJ HA;go_wp2_with fail
    rw[<-HQ.out];go_wp2_with fail
    go_roundw
    case rel=>exact⟨j+1,by omega,by go_num,hf,m',rfl⟩
    case measure=>simp[intOf];omega
theorem q2r:(Tryz.prog.info? 5).map (fun i=>(i.zero,i.size,i.bytes))=some (some (.int .u8 0),1,1):=by kernel_rfl
theorem qtc(s:ByteArray)(w:World)(hs:s.size<=100000) :
  Calls Tryz.prog 103 #[.string s] w fun e w'=>e=.returned (.string s)/\Below w.heap.size w w':=by
 by_cases h0:s.size=0
 ·obtain rfl:s=⟨#[]⟩:=ByteArray.ext (Array.eq_empty_of_size_eq_zero h0)
  go_enter Tryz.func103,Tryz.ntmps103
  go_wp2_with fail
  go_ret
  exact⟨rfl,Below.refl _ _⟩
 have c0:¬(s.size:Int)=0:=by omega
 have c1:(0:Int)<(s.size:Int):=by omega
 obtain⟨i0,hi,Hg,He,Hi⟩:=info_parts q2r;obtain⟨W1,Hj,Hb,Ha⟩:=run_makeSlice_full (P:=Tryz.prog) w w.heap.size 82 5 i0 (.int .u8 0) 1 Tryz.underlying82 hi Hg He .i64 .i64 s.size (by omega) (by rw[Hi];omega) (by unfold maxLen;omega) (Nat.le_refl _);obtain⟨cur,ha,hj⟩:∃cur,W1.heap[w.heap.size]?=some (.cells cur 5 (0,0))/\cur.size=s.size:=by
  rcases Hb.2 with⟨q,_⟩|⟨g,cap,cur,hv,_,hg,_,_,hs,_⟩
  ·cases q
  ·injection hv with e1 e2 e3
   injection e1 with e1;injection e1 with e1;subst e1 e3;exact⟨cur,hg,by omega⟩
 have Hc:=fun ty=>Lib.run_copy_row_string (P:=Tryz.prog) W1 82 9 ty 5 w.heap.size 0 s.size s.size s cur 5 Tryz.underlying82 (by rw[hi];simp[He]) ha (Nat.le_refl _) (by omega);have hc:(cur.toList.take 0++Lib.byteCells s.data.toList++cur.toList.drop (0+s.size))=Lib.byteCells s.data.toList:=by
  rw[List.take_zero,List.nil_append,List.drop_of_length_le (by simp[hj]),List.append_nil]
 rw[hc]at Hc;have hb:Below w.heap.size w W1:=⟨Ha.os,Ha.tape,Ha.output,Ha.size,fun k hk=>Ha.block k hk (by simp)⟩;have he:(W1.setRow w.heap.size (Lib.byteCells s.data.toList).toArray).heap[w.heap.size]?=some (.cells (Lib.byteCells s.data.toList).toArray 5 (0,0)):=setRow_heap W1 _ _ _ _ _ ha;have hf:Below w.heap.size w (W1.setRow w.heap.size (Lib.byteCells s.data.toList).toArray):=⟨hb.os,hb.tape,hb.output,by simpa using hb.size,fun k hk=>by
  refine Eq.trans ?_ (hb.block k hk);simp only[World.setRow,Array.getElem?_modify];rw[if_neg (by omega)]⟩
 clear ha hc Hb Ha;generalize W1.setRow w.heap.size (Lib.byteCells s.data.toList).toArray=W2 at Hc he hf;have Hf:=fun pt it ty hp=>Lib.run_unsafeString_row (P:=Tryz.prog) W2 pt it ty 5 hp (by kernel_rfl) w.heap.size s.size (by simp[World.shape?,he,Lib.byteCells]) s.data.toList (fun q=>h0 (by have:=congrArg List.length q;simpa using this)) (by simp) (by simp;omega) (fun j x hx=>by
  have e:(⟨w.heap.size,0,none⟩:Addr).add j=⟨w.heap.size,j,none⟩:=by simp only[Addr.add,Nat.zero_add];split<;>simp_all
  rw[e];exact qaa he j _ (by simp[Lib.byteCells,hx]))
 have hl:(s.data.toList.length:Int)=(s.size:Int):=by simp
 have hS:(⟨s.data.toList.toArray⟩:ByteArray)=s:=by cases s;simp
 simp only[hl,hS]at Hf;have HB:=hd (Lib.below_freeze hf (p:=⟨w.heap.size,0,none⟩) (Nat.le_refl _) s.data.toList.length);have e1:=Hc 3;have e2:=Hf 209 3 9 Tryz.underlying209;clear Hc Hf he hb hf hi Hg He Hi hl hS;go_enter Tryz.func103,Tryz.ntmps103
 go_wp2_with fail
 go_ret
 exact⟨rfl,HB.out⟩
theorem qvn(s:ByteArray)(w:World)(hs:s.size<=100000) :
  Calls Tryz.prog 73 #[.string s] w fun e w'=>e=.returned (.string s)/\Below w.heap.size w w':=by
 go_enter Tryz.func73,Tryz.ntmps73
 go_wp2_with (go_at_call 103;refine(qtc s _ hs).mono ?_;rintro e w' ⟨rfl,hb⟩)
 go_ret
 exact⟨rfl,hb⟩
end Go.Proofs.YtfkhljmiehdgmaaGreatDoor
namespace Go.Proofs.YtfkhljmiehdgmaaGreatDoor.Pl
theorem qt4:∀(T:List UInt8) (x:Sx) (j:Nat) (h:j<T.length),qbj x (T.take j)=Option.none->qbv (qav x (T.take j)).st.kind (qav x (T.take j)).st.mode (qav x (T.take j)).ma.far T[j]=true->qbj x T=some j
 |[],x,j,h,_,_=>by simp at h
 |b::l,x,0,h,_,hm=>by
   have hm:qbv x.st.kind x.st.mode x.ma.far b=true:=hm;unfold qbj;rw[if_pos hm]
 |b::l,x,j+1,h,h0,hm=>by
   rw[List.take_succ_cons]at h0;unfold qbj at h0 |-;split at h0
   ·cases h0
   ·rename_i hb
    rw[if_neg hb];rw[Option.map_eq_none_iff]at h0;rw[qt4 l (x.behind b) j (by simpa using h) h0 hm];rfl
theorem qt3:∀(T:List UInt8) (x:Sx) (j:Nat) (h:j<T.length),qbj x (T.take j)=Option.none->qbv (qav x (T.take j)).st.kind (qav x (T.take j)).st.mode (qav x (T.take j)).ma.far T[j]=false->qbj x (T.take (j+1))=Option.none
 |[],x,j,h,_,_=>by simp at h
 |b::l,x,0,h,_,hm=>by
   have hm:qbv x.st.kind x.st.mode x.ma.far b=false:=hm;rw[List.take_succ_cons];unfold qbj;rw[hm,List.take_zero];rfl
 |b::l,x,j+1,h,h0,hm=>by
   rw[List.take_succ_cons]at h0 |-;unfold qbj at h0 |-;split at h0
   ·cases h0
   ·rename_i hb
    rw[if_neg hb];rw[Option.map_eq_none_iff]at h0 |-;exact qt3 l (x.behind b) j (by simpa using h) h0 hm
end Go.Proofs.YtfkhljmiehdgmaaGreatDoor.Pl
namespace Go.Proofs.YtfkhljmiehdgmaaGreatDoor
open Go.RowKit
def msW(w:World)(x:Pl.Sx)(b:UInt8):World:=if b=58 then(w.alloc (.cells (qaf x) 162)).alloc (.cells (qaf x) 162)else w.alloc (.cells (qaf x) 162)
theorem qi8(x:Pl.Sx)(b:UInt8)(w:World) :
  Calls Tryz.prog 106 #[qap x,.int .u8 b.toNat] w fun e w'=>e=.returned (.bool (Pl.qbv x.st.kind x.st.mode x.ma.far b))/\msW w x b=w':=by
 unfold Pl.qbv;by_cases hb:b=58
 ·subst hb
  have hI:=fun w=>qdr x w;have hm:msW w x 58=(w.alloc (.cells (qaf x) 162)).alloc (.cells (qaf x) 162):=if_pos rfl;rw[hm];by_cases h1:Pl.qba x.st.kind x.st.mode=true
  ·rw[h1]at hI |-
   unfold qap qaf bs at hI |-;have HI:=hd hI;clear hI h1 hm;go_enter Tryz.func106,Tryz.ntmps106
   go_wp2_with (go_at_call 153;refine(HI.out _).mono ?_;rintro e w' ⟨rfl,rfl⟩)
   go_ret
   exact⟨rfl,rfl⟩
  ·have h1:=Bool.eq_false_iff.2 h1
   rw[h1]at hI |-;unfold qap qaf bs at hI |-;have HI:=hd hI;clear hI h1 hm;go_enter Tryz.func106,Tryz.ntmps106
   go_wp2_with (go_at_call 153;refine(HI.out _).mono ?_;rintro e w' ⟨rfl,rfl⟩)
   go_ret
   exact⟨rfl,rfl⟩
 ·have hm:msW w x b=w.alloc (.cells (qaf x) 162):=if_neg hb
  have ha:(b==58)=false:=by rw[beq_eq_false_iff_ne];exact hb
  have Ha:((b.toNat:Int)==58)=false:=(Pl.qh5 b 58 (by omega)).trans ha;rw[hm,ha,Bool.false_and];unfold qap qaf bs;clear hm hb ha;go_enter Tryz.func106,Tryz.ntmps106
  go_wp2_with fail
  go_ret
  exact⟨rfl,rfl⟩
theorem qvh(b:UInt8)(w:World)(h:Pl.among b Pl.qhg=true) :
  Calls Tryz.prog 130 #[.string ⟨#[47,63,35,58]⟩,.int .u8 b.toNat] w fun e w'=>∃x:Int,0<=x/\e=.returned (.int .i64 x)/\w=w':=
 qb3 b _ Pl.qhg w rfl h
theorem qph(b:UInt8)(w:World)(h:Pl.among b Pl.qhg=false) :
  Calls Tryz.prog 130 #[.string ⟨#[47,63,35,58]⟩,.int .u8 b.toNat] w fun e w'=>e=.returned (.int .i64 (-1))/\w=w':=
 qce b _ Pl.qhg w rfl h
theorem qo2(w:World)(x:Pl.Sx)(b:UInt8):Below w.heap.size w (msW w x b):=by
 unfold msW;split
 ·exact(ba _).alloc (by simp) _
 ·exact ba _
theorem qxu(x:Pl.Sx)(b:UInt8)(w:World) :
  Calls Tryz.prog 184 #[qap x,.int .u8 b.toNat] w fun e w'=>e=.returned (.int .i64 (Pl.qdu x.st.kind x.st.mode x.ma.far b))/\Below w.heap.size w w':=by
 have hI:=fun w=>qi8 x b w;have ha:=fun w=>qo2 w x b;have hw:Below w.heap.size w (msW (w.alloc (.cells (qaf x) 162)) x b):=(ba _).trans ((ha _).mono (by simp));have Ha:SxAt (msW (w.alloc (.cells (qaf x) 162)) x b) w.heap.size x:=(qjq w x _).kept (ha _) (by simp);have q9:=Ha.far;clear Ha ha;unfold Pl.qdu;by_cases h1:Pl.qbv x.st.kind x.st.mode x.ma.far b=true
 ·rw[if_pos h1]
  rw[h1]at hI;generalize hW:msW (w.alloc (.cells (qaf x) 162)) x b=W at hw q9;have hI:=hI (w.alloc (.cells (qaf x) 162));rw[hW]at hI;unfold qap qaf bs at hI |-;have HI:=hd hI;clear hI h1 hW;go_enter Tryz.func184,Tryz.ntmps184
  go_wp2_with (go_at_call 106;refine(Calls.mono HI.out) ?_;rintro e w' ⟨rfl,rfl⟩)
  go_ret
  exact⟨rfl,hw⟩
 ·rw[if_neg h1]
  rw[Bool.eq_false_iff.2 h1]at hI;generalize hW:msW (w.alloc (.cells (qaf x) 162)) x b=W at hw q9;have hI:=hI (w.alloc (.cells (qaf x) 162));rw[hW]at hI;unfold qap qaf bs at hI |-;have HI:=hd hI;clear hI h1 hW;by_cases h2:Pl.among b Pl.qhg=true
  ·rw[if_pos h2]
   go_enter Tryz.func184,Tryz.ntmps184
   go_wp2_with (first|(go_at_call 106;refine(Calls.mono HI.out) ?_;rintro e w' ⟨rfl,rfl⟩)|(go_at_call 130;refine(qvh b _ h2).mono ?_;rintro e w' ⟨x',Hb,rfl,rfl⟩))
   go_ret
   exact⟨rfl,hw⟩
  ·rw[if_neg h2]
   have h2:=Bool.eq_false_iff.2 h2;by_cases h3:x.ma.far=0
   ·rw[if_pos h3]
    have hb:(x.ma.far==0)=true:=by rw[h3];rfl
    clear h3;go_enter Tryz.func184,Tryz.ntmps184
    go_wp2_with (first|(go_at_call 106;refine(Calls.mono HI.out) ?_;rintro e w' ⟨rfl,rfl⟩)|(go_at_call 130;refine(qph b _ h2).mono ?_;rintro e w' ⟨rfl,rfl⟩))
    go_ret
    exact⟨rfl,hw⟩
   ·rw[if_neg h3]
    have hb:(x.ma.far==0)=false:=by rw[beq_eq_false_iff_ne];exact h3
    clear h3;go_enter Tryz.func184,Tryz.ntmps184
    go_wp2_with (first|(go_at_call 106;refine(Calls.mono HI.out) ?_;rintro e w' ⟨rfl,rfl⟩)|(go_at_call 130;refine(qph b _ h2).mono ?_;rintro e w' ⟨rfl,rfl⟩))
    go_ret
    exact⟨rfl,hw⟩
end Go.Proofs.YtfkhljmiehdgmaaGreatDoor
namespace Go.Proofs.YtfkhljmiehdgmaaGreatDoor.Pl
variable{t:List UInt8}{c:Ct}{a N:Nat}
structure PtB(n:Nat)(p:Pt):Prop where
 text:p.text.length<=n
 mate:p.mate<=n
theorem qv4{z:Nat}(h:∀p∈c.parts,PtB t.length p):∀p∈(c.addText t a z).parts,PtB t.length p:=by
 unfold Ct.addText;split
 ·intro p hp
  simp only[List.mem_append,List.mem_singleton]at hp;rcases hp with hp|rfl
  ·exact h p hp
  ·refine⟨?_,Nat.zero_le _⟩
   simp only[List.length_take,List.length_drop];omega
 ·exact h
theorem q27{l:List Pt}(m n:Nat)(hn:n<=N)(h:∀p∈l,PtB N p):∀p∈qbc l m n,PtB N p:=by
 induction l generalizing m with
 |nil=>unfold qbc;simp
 |cons q l ih=>
   cases m with
   |zero=>
     intro p hp;have e:qbc (q::l) 0 n={ q with mate:=n }::l:=rfl;rw[e]at hp;rcases List.mem_cons.1 hp with rfl|hp
     ·exact⟨(h q (by simp)).text,hn⟩
     ·exact h p (List.mem_cons_of_mem _ hp)
   |succ m=>
     intro p hp;have e:qbc (q::l) (m+1) n=q::qbc l m n:=by simp[qbc]
     rw[e]at hp;rcases List.mem_cons.1 hp with rfl|hp
     ·exact h p (by simp)
     ·exact ih m (fun r hr=>h r (List.mem_cons_of_mem _ hr)) p hp
theorem zah{one:Tg}(h:∀p∈c.parts,PtB N p)(hn:one.name.length<=N)(hl:c.parts.length<=N)(ho:∀m∈c.opened,m<c.parts.length):∀p∈(c.take one a).2.parts,PtB N p:=by
 have Ha:PtB N ⟨one.kind,a,one.name,0⟩:=⟨hn,Nat.zero_le _⟩;have ha:∀(l:List Pt) (q:Pt),(∀p∈l,PtB N p)->PtB N q->∀p∈l++[q],PtB N p:=fun l q hl hq p hp=>by
  simp only[List.mem_append,List.mem_singleton]at hp;rcases hp with hp|rfl
  ·exact hl p hp
  ·exact hq
 unfold Ct.take;by_cases h1:one.slip≠0
 ·rw[if_pos h1];exact h
 rw[if_neg h1];by_cases h7:one.kind=7
 ·rw[if_pos h7];exact h
 rw[if_neg h7];by_cases h8:one.kind=8
 ·rw[if_pos h8];exact h
 rw[if_neg h8];by_cases hb:one.kind=3\/one.kind=4
 ·rw[if_pos hb]
  split
  ·exact h
  ·exact ha _ _ h Ha
 rw[if_neg hb];by_cases h5:one.kind=5
 ·rw[if_pos h5]
  split
  ·exact h
  ·rename_i m hm
   split
   ·exact h
   ·have:=ho m (List.mem_of_getLast? hm)
    exact ha _ _ (q27 _ _ hl h) ⟨hn,by show m<=N;omega⟩
 ·rw[if_neg h5]
  exact ha _ _ h Ha
theorem qua(l:List UInt8):(qa9 l).name.length<=l.length:=by
 have ha:∀(k:Nat) (n:List UInt8),(qca k n).name.length<=n.length:=fun k n=>by
  unfold qca;split<;>split
  all_goals first|exact Nat.le_refl _|exact Nat.zero_le _
 unfold qa9;split
 ·exact Nat.zero_le _
 ·split
  ·unfold qdc
   split
   ·exact Nat.zero_le _
   ·split
    ·split<;>exact Nat.zero_le _
    ·exact Nat.zero_le _
  ·split
   ·exact ha _ _
   ·refine Nat.le_trans (ha _ _) (Nat.le_trans (qib _ _) ?_)
    rw[List.length_drop];omega
theorem zaj(hc:CtOk t c a)(h:∀p∈c.parts,PtB t.length p) :
  (∀d,c.step t a=.over d->∀p∈d.parts,PtB t.length p)/\(∀d b,c.step t a=.next d b->∀p∈d.parts,PtB t.length p):=by
 have hf:=hc.le;cases ha:(Go.Lib.cut (t.drop a) c.op).2.2 with
 |false=>
   rw[qlc ha];refine⟨fun d e=>?_,fun d b e=>(by cases e)⟩;injection e with e;subst e;exact qv4 h
 |true=>
   obtain⟨i1,Hf,Hb,hg,Hc,Hg⟩:=qjg _ _ ha;rw[List.length_drop]at Hb;cases Ha:(Go.Lib.cut (Go.Lib.cut (t.drop a) c.op).2.1 c.cl).2.2 with
   |false=>
     rw[qgm ha Ha];exact⟨fun d e=>(by cases e),fun d b e=>(by cases e)⟩
   |true=>
     obtain⟨i2,hi,he,Hi,hj,Hj⟩:=qjg _ _ Ha;rw[Hc,List.length_drop,List.length_drop]at he;obtain⟨one,h1⟩:∃one,qa9 (Go.Lib.trimS (Go.Lib.cut (Go.Lib.cut (t.drop a) c.op).2.1 c.cl).1 qah)=one:=⟨_,rfl⟩;have hn:=qua (Go.Lib.trimS (Go.Lib.cut (Go.Lib.cut (t.drop a) c.op).2.1 c.cl).1 qah);have hk:(Go.Lib.trimS (Go.Lib.cut (Go.Lib.cut (t.drop a) c.op).2.1 c.cl).1 qah).length<=t.length:=by
      refine Nat.le_trans (qoe _ _).length_le ?_;omega
     rw[h1]at hn;generalize hO:(if one.kind≠2 then qeg t (a+(Go.Lib.cut (t.drop a) c.op).1.length) (a+(Go.Lib.cut (t.drop a) c.op).1.length+c.op.length+(Go.Lib.cut (Go.Lib.cut (t.drop a) c.op).2.1 c.cl).1.length+c.cl.length)else(a+(Go.Lib.cut (t.drop a) c.op).1.length,a+(Go.Lib.cut (t.drop a) c.op).1.length+c.op.length+(Go.Lib.cut (Go.Lib.cut (t.drop a) c.op).2.1 c.cl).1.length+c.cl.length))=o;rw[qnq ha Ha one h1 _ _ rfl rfl o hO];have He:o.1<=a+(Go.Lib.cut (t.drop a) c.op).1.length:=by
      subst hO;split
      ·exact(qo6 _ _ _ (by omega) (by omega)).1
      ·exact Nat.le_refl _
     have hb:=qh6 hc o.1 (a+(Go.Lib.cut (t.drop a) c.op).1.length) (by omega) He (by omega);refine⟨fun d e=>?_,fun d b e=>?_⟩
     ·split at e<;>cases e
     ·split at e
      ·cases e
      ·injection e with e1 e2
       subst e1;exact zah (qv4 h) (by omega) (Nat.le_trans hb.few hb.le) hb.wf.lt
theorem go_b(t:List UInt8):∀(n:Nat) (c:Ct) (a:Nat),CtOk t c a->(∀p∈c.parts,PtB t.length p)->∀p∈(Ct.go t n c a).2,PtB t.length p:=by
 intro n
 induction n with
 |zero=>intro c a _ _ p hp;cases hp
 |succ n ih=>
   intro c a hc h;obtain⟨h2,h3⟩:=zaj hc h;unfold Ct.go;cases hs:c.step t a with
   |slip k p=>intro p hp;cases hp
   |over d=>exact h2 d hs
   |next d b=>exact ih d b (qga hc hs).1 (h3 d b hs)
theorem q7d(t:List UInt8)(h:(qam t).1.1=0):t.length<=2000/\∀p∈(qam t).2,PtB t.length p:=by
 have hg:=go_b t (t.length+1) Ct.start 0 (qh4 t) (fun p hp=>by cases hp)
 unfold qam at h |-;split at h
 ·cases h
 ·rename_i h1
  refine⟨by omega,?_⟩;rw[if_neg h1];split
  ·exact hg
  ·intro p hp;cases hp
end Go.Proofs.YtfkhljmiehdgmaaGreatDoor.Pl
