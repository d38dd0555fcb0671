/-
  Steps of the proof (texts laid together, blanks left out): PnP, VkA, Mp, PnA, PgWB.
-/
import Derived.Test.YtfkhljmiehdgmaaGreatDoorTaAR
import Derived.Test.YtfkhljmiehdgmaaGreatDoorTaAT
import Derived.Test.YtfkhljmiehdgmaaGreatDoorTaAH
import Derived.Maps.OwnOps
import Derived.DeepKeys3
import Derived.Test.YtfkhljmiehdgmaaGreatDoorTaAE
import Derived.Test.YtfkhljmiehdgmaaGreatDoorTaAB
import Derived.Test.YtfkhljmiehdgmaaGreatDoorTaAD
namespace Go.Proofs.YtfkhljmiehdgmaaGreatDoor.Pl
structure Inv (S:List Src) (s:Sr):Prop where
 ends:EndsOk S.length s.ends
 key:∀ p∈s.nums,SxFit p.1.2∧p.1.1<S.length
 one:qj4 s.nums
 sub:∀ p∈s.nums,p.1=(0,Sx.start)∨qa7 s.ends p.1≠Option.none
 zero:∀ p∈s.nums,p.2=0→p.1.1=0
 vis:s.vis.length=s.nums.length
structure Gv (s s':Sr):Prop where
 has:∀ e,qa7 s.ends e≠Option.none→qa7 s'.ends e≠Option.none
 nums:s.nums.length≤s'.nums.length
 vis:∀(i:Nat) (u:Nat×List Int),s.vis[i]?=some u→∃ u',s'.vis[i]?=some u'∧u'.1=u.1∧u'.2.length=u.2.length
theorem Gv.refl (s:Sr):Gv s s:=⟨fun _ h=>h,Nat.le_refl _,fun _ u h=>⟨u,h,rfl,rfl⟩⟩
theorem Gv.trans {a b c:Sr} (h:Gv a b) (k:Gv b c):Gv a c:=
 ⟨fun e q=>k.has e (h.has e q),Nat.le_trans h.nums k.nums,fun i u q=>by
  obtain⟨u1,e1,e2,e3⟩:=h.vis i u q
  obtain⟨u2,f1,f2,f3⟩:=k.vis i u1 e1
  exact⟨u2,f1,f2.trans e2,f3.trans e3⟩⟩
theorem Inv.mark {S:List Src} {s:Sr} (h:Inv S s) (v a:Nat) (m:Int):Inv S (s.mark v a m):=⟨h.ends,h.key,h.one,h.sub,h.zero,by unfold Sr.mark; simp[h.vis]⟩
theorem Gv.mark (s:Sr) (v a:Nat) (m:Int):Gv s (s.mark v a m):=
 ⟨fun _ h=>h,Nat.le_refl _,fun i u hu=>by
  show ∃ u',(s.vis.modify v fun x=>(x.1,x.2.set a m))[i]?=some u'∧_
  rw[List.getElem?_modify,hu]
  by_cases h:v=i
  ·exact⟨(u.1,u.2.set a m),by simp[h],rfl,by simp⟩
  ·exact⟨u,by simp[h],rfl,rfl⟩⟩
theorem Inv.wrong {S:List Src} {s:Sr} (h:Inv S s) (S':List Src) (i:Nat) (kind:Int) (pos:Nat):Inv S (s.wrong S' i kind pos):=⟨h.ends,h.key,h.one,h.sub,h.zero,h.vis⟩
theorem Gv.wrong (s:Sr) (S':List Src) (i:Nat) (kind:Int) (pos:Nat):Gv s (s.wrong S' i kind pos):=⟨fun _ h=>h,Nat.le_refl _,fun _ u h=>⟨u,h,rfl,rfl⟩⟩
theorem Inv.grew {S:List Src} {s s':Sr} (h:Inv S s) (g:Grew S.length s s'):Inv S s'∧Gv s s':=
 ⟨⟨g.ok,by rw[g.nums]; exact h.key,by rw[g.nums]; exact h.one,by rw[g.nums]; exact fun p hp=>(h.sub p hp).imp_right (g.has _),by rw[g.nums]; exact h.zero,by rw[g.vis,g.nums]; exact h.vis⟩,
  ⟨g.has,by rw[g.nums]; exact Nat.le_refl _,by rw[g.vis]; exact fun _ u h=>⟨u,h,rfl,rfl⟩⟩⟩
theorem qw1 {α:Type} [DecidableEq α]:∀(l m:List α),l.Nodup→(∀ x∈l,x∈m)→l.length≤m.length
 | [],m,_,_=>Nat.zero_le _
 | x::l,m,h,hs=>by
   obtain⟨h1,h2⟩:=List.nodup_cons.1 h
   have hx:=hs x (by simp)
   have:=qw1 l (m.erase x) h2 (fun y hy=>(List.mem_erase_of_ne (fun e=>h1 (by rw[← e]; exact hy))).2 (hs y (List.mem_cons_of_mem _ hy)))
   rw[List.length_erase_of_mem hx]at this
   have hp:=List.length_pos_of_mem hx
   simp only[List.length_cons]; omega
theorem qkj {α:Type}:∀ {l:List (En×α)},qj4 l→(l.map (·.1)).Nodup
 | [],_=>List.nodup_nil
 | p::l,h=>by
   have ht:qj4 l:=fun i j a b hi hj e=>by
    have:=h (i+1) (j+1) a b (by simpa using hi) (by simpa using hj) e
    omega
   rw[List.map_cons,List.nodup_cons]
   refine⟨fun hm=>?_,qkj ht⟩
   obtain⟨q,hq,e⟩:=List.mem_map.1 hm
   obtain⟨i,hi⟩:=List.getElem?_of_mem hq
   have:=h 0 (i+1) p q rfl (by simpa using hi) e.symm
   omega
theorem q1t {α:Type} {l:List (En×α)} {e:En} (h:qa7 l e≠Option.none):e∈l.map (·.1):=by
 cases hg:qa7 l e with
 | none=>exact absurd hg h
 | some v=>exact List.mem_map.2 ⟨_,qf3 hg,rfl⟩
theorem Inv.few {S:List Src} {s:Sr} (h:Inv S s):s.nums.length≤s.ends.length+1:=by
 have:=qw1 (s.nums.map (·.1)) ((0,Sx.start)::s.ends.map (·.1)) (qkj h.one) (fun x hx=>by
  obtain⟨p,hp,rfl⟩:=List.mem_map.1 hx
  rcases h.sub p hp with e | e
  ·rw[e]; simp
  ·exact List.mem_cons_of_mem _ (q1t e))
 simpa using this
structure Pre (S:List Src) (s:Sr) (e:En):Prop where
 inv:Inv S s
 new:qa7 s.nums e=Option.none
 src:(e=(0,Sx.start)∧s.nums=[])∨(qa7 s.ends e≠Option.none∧1≤e.1∧s.nums≠[])
 fit:SxFit e.2
 lt:e.1<S.length
theorem Pre.begun {S:List Src} {s:Sr} {e:En} (h:Pre S s e):Inv S (begun S s e)∧Gv s (begun S s e)∧(Pl.begun S s e).nums.length=s.nums.length+1:=by
 have hput:qbg s.nums e s.vis.length=s.nums++[(e,s.vis.length)]:=qem h.new _
 refine⟨⟨h.inv.ends,?_,?_,?_,?_,?_⟩,⟨fun _ q=>q,?_,?_⟩,?_⟩
 ·intro p hp
  rcases qk5 hp with rfl | hp
  ·exact⟨h.fit,h.lt⟩
  ·exact h.inv.key p hp
 ·exact qnu h.inv.one _ _
 ·intro p hp
  rcases qk5 hp with rfl | hp
  ·rcases h.src with q | q
   ·exact .inl q.1
   ·exact .inr q.1
  ·exact h.inv.sub p hp
 ·intro p hp h0
  rcases qk5 hp with rfl | hp
  ·rcases h.src with q | q
   ·rw[q.1]
   ·exfalso
    have h0:s.vis.length=0:=h0
    rw[h.inv.vis]at h0
    exact q.2.2 (List.length_eq_zero_iff.1 h0)
  ·exact h.inv.zero p hp h0
 ·show (s.vis++[_]).length=(qbg _ _ _).length
  rw[hput]; simp[h.inv.vis]
 ·show s.nums.length≤(qbg _ _ _).length
  rw[hput]; simp
 ·intro i u hu
  refine⟨u,?_,rfl,rfl⟩
  show (s.vis++[_])[i]?=some u
  rw[List.getElem?_append_left (List.getElem?_eq_some_iff.1 hu).1]
  exact hu
 ·show (qbg _ _ _).length=_
  rw[hput]; simp
def NmOk (S:List Src) (nm:Sr→List UInt8→Sx→Sr×Nat×Sx) (m:Nat):Prop:=∀ s t x,Inv S s→m≤s.nums.length→SxFit x→Inv S (nm s t x).1∧Gv s (nm s t x).1∧qrv (nm s t x).2.2
theorem q79 {S:List Src} {nm:Sr→List UInt8→Sx→Sr×Nat×Sx} {m:Nat} (hnm:NmOk S nm m) (i v:Nat) (P:List Pt):∀(n a:Nat) (s:Sr) (x:Sx) (B:List (Sx×Nat)),Inv S s→m≤s.nums.length→SxFit x→(∀ b∈B,SxFit b.1)→Inv S (goV nm S i v P n a s x B)∧Gv s (goV nm S i v P n a s x B):=by
 intro n
 induction n with
 | zero=>intro a s x B h _ _ _; exact⟨h,Gv.refl s⟩
 | succ n ih=>
   intro a s x B h hm hx hB
   unfold goV
   cases hp:P[a]? with
   | none=>exact⟨h,Gv.refl s⟩
   | some p=>
     simp only
     split
     ·split
      ·exact⟨h.wrong _ _ _ _,Gv.wrong _ _ _ _ _⟩
      ·exact ih _ s _ B h hm (qi3 _ _ hx) hB
     ·split
      ·split
       ·exact⟨h.wrong _ _ _ _,Gv.wrong _ _ _ _ _⟩
       ·obtain⟨h1,h2⟩:=ih (a+1) (s.mark v a x.hole.1) x.behindHole B (h.mark _ _ _) hm (qmd hx) hB
        exact⟨h1,(Gv.mark s v a _).trans h2⟩
      ·split
       ·exact ih _ s x _ h hm hx (fun b hb=>by
         rcases List.mem_append.1 hb with hb | hb
         ·exact hB b hb
         ·simp at hb; subst hb; exact hx)
       ·split
        ·split
         ·exact⟨h,Gv.refl s⟩
         ·split
          ·exact⟨h.wrong _ _ _ _,Gv.wrong _ _ _ _ _⟩
          ·exact ih _ s x _ h hm hx (fun b hb=>hB b ((List.dropLast_sublist _).subset hb))
        ·split
         ·obtain⟨h1,h2,h3⟩:=hnm s p.text x h hm hx
          have g1:=h1.mark v a ((nm s p.text x).2.1:Nat)
          have g2:=h2.trans (Gv.mark (nm s p.text x).1 v a ((nm s p.text x).2.1:Nat))
          have hm1:m≤((nm s p.text x).1.mark v a ((nm s p.text x).2.1:Nat)).nums.length:=Nat.le_trans hm h2.nums
          split
          ·exact⟨g1,g2⟩
          ·split
           ·rename_i hnn
            obtain⟨k1,k2⟩:=ih (a+1) _ _ B g1 hm1 (qn5 h3 (by rw[hnn]; simp)) hB
            exact⟨k1,g2.trans k2⟩
           ·split
            ·exact⟨g1,g2⟩
            ·rename_i b hb
             obtain⟨k1,k2⟩:=ih b.2 _ b.1 B g1 hm1 (hB b (List.mem_of_getLast? hb)) hB
             exact⟨k1,g2.trans k2⟩
         ·exact ih _ s x B h hm hx hB
theorem q4q (S:List Src) (k:Nat) (s:Sr) (n:List UInt8) (x:Sx) (h0:qag S n≠0):qa7 (behV S (k+1) s n x).1.ends (qag S n,x)≠Option.none∨(behV S (k+1) s n x).1.fault=qpq:=by
 unfold behV
 rw[if_neg h0]
 cases hg:qa7 s.ends (qag S n,x) with
 | some e=>exact .inl (by simp[hg])
 | none=>
   simp only
   split
   ·exact .inr rfl
   ·refine .inl ?_
    show qa7 (qbg _ _ _) _≠_
    rw[qf2,if_pos rfl]; simp
theorem q00 {S:List Src} {s:Sr} {n:List UInt8} {x:Sx} (h:Inv S s) (h1:1≤s.nums.length) (hx:SxFit x) (h0:qag S n≠0) (hf:(behV S 257 s n x).1.fault.code=0) (hz:qgc (behV S 257 s n x).1 (qag S n,x)=0):Pre S (behV S 257 s n x).1 (qag S n,x):=by
 obtain⟨g1,g2⟩:=qiu S 257 0 (by omega) s n x h.ends (Nat.zero_le _) hx
 obtain⟨i1,i2⟩:=h.grew g1
 have hpl:=qen S n h0
 refine⟨i1,?_,.inr ⟨?_,hpl.1,fun e=>?_⟩,hx,hpl.2⟩
 ·cases hg:qa7 (behV S 257 s n x).1.nums (qag S n,x) with
  | none=>rfl
  | some v=>
    exfalso
    have hv:v=0:=by
     unfold qgc at hz
     rw[hg]at hz
     exact hz
    have:=i1.zero _ (qf3 hg) hv
    simp only at this; omega
 ·rcases q4q S 256 s n x h0 with q | q
  ·exact q
  ·rw[q]at hf; cases hf
 ·rw[g1.nums]at e; rw[e]at h1; simp at h1
theorem ql6 (S:List Src):∀(k:Nat) (s:Sr) (e:En),Pre S s e→258≤s.nums.length+k→Inv S (qdk S k s e)∧Gv s (qdk S k s e):=by
 intro k
 induction k with
 | zero=>
   intro s e h hk
   have:=h.inv.few
   have:=h.inv.ends.few
   omega
 | succ k ih=>
   intro s e h hk
   rw[ql7]
   obtain⟨b1,b2,b3⟩:=h.begun
   have hnm:NmOk S (nmV S k) (s.nums.length+1):=by
    intro s' t x h' hm hx
    obtain⟨g1,g2⟩:=qiu S 257 0 (by omega) s' t x h'.ends (Nat.zero_le _) hx
    obtain⟨i1,i2⟩:=h'.grew g1
    unfold nmV
    simp only
    split
    ·exact⟨i1,i2,g2⟩
    ·rename_i hc
     split
     ·rename_i hz
      have hp:=q00 h' (by omega) hx (fun q=>hc (.inl q)) (by cases hq:(behV S 257 s' t x).1.fault.code with | zero=>rfl | succ n=>exact absurd (.inr (by rw[hq]; simp)) hc) hz
      obtain⟨j1,j2⟩:=ih _ _ hp (by rw[g1.nums]; omega)
      exact⟨j1,i2.trans j2,g2⟩
     ·exact⟨i1,i2,g2⟩
   obtain⟨k1,k2⟩:=q79 hnm e.1 s.vis.length (qaj S e.1) ((qaj S e.1).length+1) 0 (Pl.begun S s e) e.2 [] b1 (by omega) h.fit (fun b hb=>by cases hb)
   exact⟨k1,b2.trans k2⟩
theorem q74 (S:List Src) (k m:Nat) (hk:258≤m+k) (h1:1≤m):NmOk S (nmV S k) m:=by
 intro s' t x h' hm hx
 obtain⟨g1,g2⟩:=qiu S 257 0 (by omega) s' t x h'.ends (Nat.zero_le _) hx
 obtain⟨i1,i2⟩:=h'.grew g1
 unfold nmV
 simp only
 split
 ·exact⟨i1,i2,g2⟩
 ·rename_i hc
  split
  ·rename_i hz
   have hp:=q00 h' (by omega) hx (fun q=>hc (.inl q)) (by cases hq:(behV S 257 s' t x).1.fault.code with | zero=>rfl | succ n=>exact absurd (.inr (by rw[hq]; simp)) hc) hz
   obtain⟨j1,j2⟩:=ql6 S k _ _ hp (by rw[g1.nums]; omega)
   exact⟨j1,i2.trans j2,g2⟩
  ·exact⟨i1,i2,g2⟩
theorem qo6 {beh:Sr→List UInt8→Sx→Sr×Sx} (hb:∀ s t x,(beh s t x).1.vis=s.vis∧(beh s t x).1.nums=s.nums) (P:List Pt):∀(n a:Nat) (s:Sr) (x:Sx),(qdd beh P n a s x).1.vis=s.vis∧(qdd beh P n a s x).1.nums=s.nums:=by
 intro n
 induction n with
 | zero=>intro a s x; exact⟨rfl,rfl⟩
 | succ n ih=>
   intro a s x
   unfold qdd
   split
   ·exact⟨rfl,rfl⟩
   ·split
    ·exact⟨rfl,rfl⟩
    ·split
     ·exact ih _ _ _
     split
     ·exact ih _ _ _
     split
     ·exact ih _ _ _
     split
     ·rename_i p _ _ _ _ _
      have h1:=hb s p.text x
      have h2:=ih (a+1) (beh s p.text x).1 (beh s p.text x).2
      exact⟨h2.1.trans h1.1,h2.2.trans h1.2⟩
     ·exact ih _ _ _
theorem qub (S:List Src):∀(k:Nat) (s:Sr) (n:List UInt8) (x:Sx),(behV S k s n x).1.vis=s.vis∧(behV S k s n x).1.nums=s.nums:=by
 intro k
 induction k with
 | zero=>intro s n x; exact⟨rfl,rfl⟩
 | succ k ih=>
   intro s n x
   unfold behV
   split
   ·exact⟨rfl,rfl⟩
   ·split
    ·exact⟨rfl,rfl⟩
    ·split
     ·exact⟨rfl,rfl⟩
     ·exact qo6 ih _ _ _ _ _
structure Vk (S:List Src) (s:Sr):Prop where
 nums:∀ p∈s.nums,p.2<s.vis.length
 vis:∀(i:Nat) (u:Nat×List Int),s.vis[i]?=some u→u.1<S.length∧u.2.length=(qaj S u.1).length∧∀(a:Nat) (p:Pt) (m:Int),(qaj S u.1)[a]?=some p→p.kind=6→u.2[a]?=some m→0≤m∧m<(s.vis.length:Nat)
structure Vs (s s':Sr):Prop where
 len:s.vis.length≤s'.vis.length
 same:∀(i:Nat) (u:Nat×List Int),s.vis[i]?=some u→∃ u',s'.vis[i]?=some u'∧u'.1=u.1
theorem Vs.refl (s:Sr):Vs s s:=⟨Nat.le_refl _,fun _ u h=>⟨u,h,rfl⟩⟩
theorem Vs.trans {a b c:Sr} (h:Vs a b) (k:Vs b c):Vs a c:=⟨Nat.le_trans h.len k.len,fun i u hu=>by
 obtain⟨u1,e1,e2⟩:=h.same i u hu
 obtain⟨u2,f1,f2⟩:=k.same i u1 e1
 exact⟨u2,f1,f2.trans e2⟩⟩
theorem Vk.eq {S:List Src} {s s':Sr} (h:Vk S s) (h1:s'.vis=s.vis) (h2:s'.nums=s.nums):Vk S s':=⟨by rw[h1,h2]; exact h.nums,by rw[h1]; exact h.vis⟩
theorem Vs.eq {s s':Sr} (h1:s'.vis=s.vis):Vs s s':=⟨by rw[h1]; exact Nat.le_refl _,fun i u hu=>⟨u,by rw[h1]; exact hu,rfl⟩⟩
theorem qqy (s:Sr) (v a:Nat) (m:Int):(s.mark v a m).vis.length=s.vis.length:=by unfold Sr.mark; simp
theorem Vs.mark (s:Sr) (v a:Nat) (m:Int):Vs s (s.mark v a m):=⟨by rw[qqy]; exact Nat.le_refl _,fun i u hu=>by
 show ∃ u',(s.vis.modify v fun x=>(x.1,x.2.set a m))[i]?=some u'∧_
 rw[List.getElem?_modify,hu]
 by_cases h:v=i
 ·exact⟨(u.1,u.2.set a m),by simp[h],rfl⟩
 ·exact⟨u,by simp[h],rfl⟩⟩
theorem Vk.mark {S:List Src} {s:Sr} (h:Vk S s) (v a:Nat) (m:Int) (hm:∀ u p,s.vis[v]?=some u→(qaj S u.1)[a]?=some p→p.kind=6→0≤m∧m<(s.vis.length:Nat)):Vk S (s.mark v a m):=by
 refine⟨by rw[qqy]; exact h.nums,fun i u hu=>?_⟩
 rw[qqy]
 have hu2:(s.vis.modify v fun x=>(x.1,x.2.set a m))[i]?=some u:=hu
 rw[List.getElem?_modify]at hu2
 cases hx:s.vis[i]? with
 | none=>rw[hx]at hu2; cases hu2
 | some x=>
   rw[hx]at hu2
   obtain⟨h1,h2,h3⟩:=h.vis i x hx
   replace hu2:some (if v=i then(x.1,x.2.set a m) else x)=some u:=hu2
   by_cases hv:v=i
   ·rw[if_pos hv]at hu2
    have e:(x.1,x.2.set a m)=u:=Option.some.inj hu2
    subst e
    refine⟨h1,by simpa using h2,fun b p z hp hk hz=>?_⟩
    have hz2:(x.2.set a m)[b]?=some z:=hz
    rw[List.getElem?_set]at hz2
    by_cases hab:a=b
    ·subst hab
     rw[if_pos rfl]at hz2
     split at hz2
     ·obtain rfl:=Option.some.inj hz2
      exact hm x p (by rw[hv]; exact hx) hp hk
     ·cases hz2
    ·rw[if_neg hab]at hz2
     exact h3 b p z hp hk hz2
   ·rw[if_neg hv]at hu2
    have e:x=u:=Option.some.inj hu2
    subst e
    exact⟨h1,h2,h3⟩
def NmVk (S:List Src) (nm:Sr→List UInt8→Sx→Sr×Nat×Sx):Prop:=∀ s t x,Vk S s→1≤s.vis.length→Vk S (nm s t x).1∧Vs s (nm s t x).1∧(nm s t x).2.1<(nm s t x).1.vis.length
theorem q78 {S:List Src} {nm:Sr→List UInt8→Sx→Sr×Nat×Sx} (hnm:NmVk S nm) (i v:Nat):∀(n a:Nat) (s:Sr) (x:Sx) (B:List (Sx×Nat)),Vk S s→(∃ u,s.vis[v]?=some u∧u.1=i) →
  Vk S (goV nm S i v (qaj S i) n a s x B)∧Vs s (goV nm S i v (qaj S i) n a s x B):=by
 intro n
 induction n with
 | zero=>intro a s x B h _; exact⟨h,Vs.refl _⟩
 | succ n ih=>
   intro a s x B h hu
   unfold goV
   split
   ·exact⟨h,Vs.refl _⟩
   ·rename_i p hp
    split
    ·split
     ·exact⟨h.eq rfl rfl,Vs.eq rfl⟩
     ·exact ih _ _ _ _ h hu
    ·split
     ·rename_i k2
      split
      ·exact⟨h.eq rfl rfl,Vs.eq rfl⟩
      ·have h1:=h.mark v a x.hole.1 (fun u q hq1 hq2 hq3=>by
        obtain⟨u',e1,e2⟩:=hu
        rw[e1]at hq1
        obtain rfl:=Option.some.inj hq1
        rw[e2,hp]at hq2
        obtain rfl:=Option.some.inj hq2
        omega)
       have h2:=Vs.mark s v a x.hole.1
       obtain⟨u,e1,e2⟩:=hu
       obtain⟨u',e3,e4⟩:=h2.same v u e1
       have h3:=ih (a+1) _ x.behindHole B h1 ⟨u',e3,e4.trans e2⟩
       exact⟨h3.1,h2.trans h3.2⟩
     ·split
      ·exact ih _ _ _ _ h hu
      ·split
       ·split
        ·exact⟨h,Vs.refl _⟩
        ·split
         ·exact⟨h.eq rfl rfl,Vs.eq rfl⟩
         ·exact ih _ _ _ _ h hu
       ·split
        ·rename_i k6
         obtain⟨u,e1,e2⟩:=hu
         have hl:1≤s.vis.length:=by have:=(List.getElem?_eq_some_iff.1 e1).1; omega
         obtain⟨g1,g2,g3⟩:=hnm s p.text x h hl
         obtain⟨u1,e3,e4⟩:=g2.same v u e1
         have h1:=g1.mark v a ((nm s p.text x).2.1:Nat) (fun _ _ _ _ _=>⟨by omega,by omega⟩)
         have h2:=Vs.mark (nm s p.text x).1 v a ((nm s p.text x).2.1:Nat)
         obtain⟨u2,e5,e6⟩:=h2.same v u1 e3
         have hu2:∃ u,((nm s p.text x).1.mark v a ((nm s p.text x).2.1:Nat)).vis[v]?=some u∧u.1=i:=⟨u2,e5,e6.trans (e4.trans e2)⟩
         have hs:=g2.trans h2
         dsimp only
         split
         ·exact⟨h1,hs⟩
         ·split
          ·have h3:=ih (a+1) _ (nm s p.text x).2.2 B h1 hu2
           exact⟨h3.1,hs.trans h3.2⟩
          ·split
           ·exact⟨h1,hs⟩
           ·rename_i b _
            have h3:=ih b.2 _ b.1 B h1 hu2
            exact⟨h3.1,hs.trans h3.2⟩
        ·exact ih _ _ _ _ h hu
theorem qtg {s:Sr} {S:List Src} (h:Vk S s) (hl:1≤s.vis.length) (e:En):qgc s e<s.vis.length:=by
 unfold qgc
 cases hk:qa7 s.nums e with
 | none=>exact hl
 | some z=>exact h.nums _ (qf3 hk)
theorem q2v (S:List Src):∀(k:Nat) (s:Sr) (e:En),Vk S s→e.1<S.length→Vk S (qdk S k s e)∧Vs s (qdk S k s e)∧(k≠0→∃ u,(qdk S k s e).vis[s.vis.length]?=some u∧u.1=e.1):=by
 intro k
 induction k with
 | zero=>intro s e h _; exact⟨h,Vs.refl _,fun q=>absurd rfl q⟩
 | succ k ih=>
   intro s e h he
   have h0:Vk S { s with nums:=qbg s.nums e s.vis.length,vis:=s.vis++[(e.1,List.replicate (qaj S e.1).length 0)] }:=by
    refine⟨fun p hp=>?_,fun i u hu=>?_⟩
    ·show p.2<(s.vis++[_]).length
     rw[List.length_append]
     rcases qk5 hp with rfl | hp
     ·show s.vis.length<_; simp
     ·have:=h.nums p hp; omega
    ·have hu2:(s.vis++[(e.1,List.replicate (qaj S e.1).length (0:Int))])[i]?=some u:=hu
     have hlen:(s.vis++[(e.1,List.replicate (qaj S e.1).length (0:Int))]).length=s.vis.length+1:=by simp
     by_cases hi:i<s.vis.length
     ·rw[List.getElem?_append_left hi]at hu2
      obtain⟨h1,h2,h3⟩:=h.vis i u hu2
      refine⟨h1,h2,fun a p m hp hk hm=>?_⟩
      have:=h3 a p m hp hk hm
      show 0≤m∧m<((s.vis++[_]).length:Nat)
      rw[hlen]; omega
     ·rw[List.getElem?_append_right (by omega)]at hu2
      have e1:u=(e.1,List.replicate (qaj S e.1).length (0:Int)):=by
       cases hj:i - s.vis.length with
       | zero=>rw[hj]at hu2; simpa using hu2.symm
       | succ j=>rw[hj]at hu2; simp at hu2
      subst e1
      refine⟨he,by simp,fun a p m hp hk hm=>?_⟩
      have hm2:(List.replicate (qaj S e.1).length (0:Int))[a]?=some m:=hm
      rw[List.getElem?_replicate]at hm2
      split at hm2
      ·obtain rfl:=Option.some.inj hm2
       show (0:Int)≤0∧(0:Int)<((s.vis++[_]).length:Nat)
       rw[hlen]; omega
      ·cases hm2
   have h1:Vs s { s with nums:=qbg s.nums e s.vis.length,vis:=s.vis++[(e.1,List.replicate (qaj S e.1).length 0)] }:=
    ⟨by show _≤(s.vis++[_]).length; simp,fun i u hu=>⟨u,by show (s.vis++[_])[i]?=some u; rw[List.getElem?_append_left (List.getElem?_eq_some_iff.1 hu).1]; exact hu,rfl⟩⟩
   unfold qdk
   have hnm:NmVk S (fun(s:Sr) (n:List UInt8) (x:Sx)=>
    let r:=behV S 257 s n x
    if qag S n=0∨r.1.fault.code≠0 then(r.1,0,r.2)
    else if qgc r.1 (qag S n,x)=0 then
     (qdk S k r.1 (qag S n,x),qgc (qdk S k r.1 (qag S n,x)) (qag S n,x),r.2)
    else(r.1,qgc r.1 (qag S n,x),r.2)):=by
    intro s n x h hl
    have hb:=qub S 257 s n x
    have hk:Vk S (behV S 257 s n x).1:=h.eq hb.1 hb.2
    have hs:Vs s (behV S 257 s n x).1:=Vs.eq hb.1
    have hl2:1≤(behV S 257 s n x).1.vis.length:=by rw[hb.1]; exact hl
    dsimp only
    split
    ·exact⟨hk,hs,hl2⟩
    ·rename_i hn
     split
     ·have hp:=(qen S n (fun q=>hn (.inl q))).2
      obtain⟨g1,g2,_⟩:=ih (behV S 257 s n x).1 (qag S n,x) hk hp
      exact⟨g1,hs.trans g2,qtg g1 (Nat.le_trans hl2 g2.len) _⟩
     ·exact⟨hk,hs,qtg hk hl2 _⟩
   have hnew:∃ u,(s.vis++[(e.1,List.replicate (qaj S e.1).length (0:Int))])[s.vis.length]?=some u∧u.1=e.1:=⟨_,by rw[List.getElem?_append_right (Nat.le_refl _),Nat.sub_self]; rfl,rfl⟩
   have h2:=q78 hnm e.1 s.vis.length ((qaj S e.1).length+1) 0 _ e.2 [] h0 hnew
   refine⟨h2.1,h1.trans h2.2,fun _=>?_⟩
   obtain⟨u,e1,e2⟩:=hnew
   obtain⟨u',e3,e4⟩:=h2.2.same _ u e1
   exact⟨u',e3,e4.trans e2⟩
theorem q6a {S:List Src} {len:Nat} (hS:1≤S.length) (h:(qdq S len).2.code=0):∃ s:Sr,Vk S s∧s.vis=(qdq S len).1∧s=qdk S 258 ⟨[],[],[],Ft.none⟩ (0,Sx.start)∧(∃ u,s.vis[0]?=some u∧u.1=0):=by
 have h0:Vk S ⟨[],[],[],Ft.none⟩:=⟨fun p hp=>(by cases hp),fun i u hu=>(by cases hu)⟩
 obtain⟨g1,g2,g3⟩:=q2v S 258 ⟨[],[],[],Ft.none⟩ (0,Sx.start) h0 hS
 refine⟨qdk S 258 ⟨[],[],[],Ft.none⟩ (0,Sx.start),g1,?_,rfl,g3 (by decide)⟩
 unfold qdq at h ⊢
 dsimp only at h ⊢
 split at h
 ·rename_i q; exact absurd h q
 ·rename_i q
  rw[if_neg q]
  split at h
  ·cases h
  ·rename_i q2
   rw[if_neg q2]
   split at h
   ·rename_i q3; exact absurd h q3
   ·rename_i q3
    rw[if_neg q3]
    exact(qo6 (qub S 257) _ _ _ _ _).1.symm
theorem q2s {o:Nat} {l:List Pt} (h:Wf o l):∀(i:Nat) (p:Pt),l[i]?=some p→p.kind=3∨p.kind=4→o+i<p.mate∧p.mate<o+l.length:=by
 induction h with
 | nil o=>intro i p hp; simp at hp
 | leaf o q l hk _ ih=>
   intro i p hp h5
   cases i with
   | zero=>simp at hp; subst hp; omega
   | succ i=>
     have:=ih i p (by simpa using hp) h5
     simp only[List.length_cons]; omega
 | sec o q z b l hq hz h1 h2 hb _ ihb ihl=>
   intro i p hp h5
   have e:q::b++z::l=q::(b++z::l):=by simp
   rw[e]at hp ⊢
   simp only[List.length_cons,List.length_append]
   cases i with
   | zero=>simp at hp; subst hp; omega
   | succ i=>
     simp only[List.getElem?_cons_succ]at hp
     rw[List.getElem?_append]at hp
     split at hp
     ·have:=ihb i p hp h5; omega
     ·rename_i hi
      cases hx:i - b.length with
      | zero=>rw[hx]at hp; simp at hp; subst hp; omega
      | succ j=>
        rw[hx]at hp
        have:=ihl j p (by simpa using hp) h5
        omega
end Go.Proofs.YtfkhljmiehdgmaaGreatDoor.Pl
namespace Go.Proofs.YtfkhljmiehdgmaaGreatDoor
open Go.RowKit Go.Maps Go.MapKept Go.ChangeMaps
def qep (w:World) (b:Nat) (L:List (Value×Value)):Prop:=∃ es clock,w.heap[b]?=some (.map es clock)∧es.toList.map (fun e=>(e.key,e.val))=L
structure KeysOk (P:Program) (K:TypeId) (L:List (Value×Value)):Prop where
 key:∀ p∈L,∃ l,keyOf P K p.1=some l
 one:∀(i j:Nat) (p q:Value×Value),L[i]?=some p→L[j]?=some q→p.1=q.1→i=j
theorem qep.lt {w:World} {b:Nat} {L:List (Value×Value)} (h:qep w b L):b<w.heap.size:=by
 obtain⟨es,c,hb,_⟩:=h
 rcases Nat.lt_or_ge b w.heap.size with q | q
 ·exact q
 ·rw[Array.getElem?_eq_none q]at hb; cases hb
theorem qep.heap {w w':World} {b:Nat} {L:List (Value×Value)} (h:qep w b L) (hw:w'.heap[b]?=w.heap[b]?):qep w' b L:=by
 obtain⟨es,c,hb,hl⟩:=h
 exact⟨es,c,hw.trans hb,hl⟩
theorem qep.kept {w w':World} {b:Nat} {L:List (Value×Value)} {row:Option Nat} (h:qep w b L) (hg:w.grownBy w' row) (hne:some b≠row):qep w' b L:=h.heap (hg.block b h.lt hne)
section
variable {P:Program} {K t e:TypeId} {w:World} {b:Nat} {L:List (Value×Value)}
theorem qqz (law:Keyed P K) (h:qep w b L) (hk:KeysOk P K L) {key:Value} {kl:Lit} (hkey:keyOf P K key=some kl) :
  ∃ es clock,w.heap[b]?=some (.map es clock)∧es.toList.map (fun e=>(e.key,e.val))=L∧(∀ W:World,
    (((Instr.findKey K key es.toList).run P W=.ok none W∧∀ p∈L,p.1≠key) ∨
    ∃(j:Nat) (v:Value),(Instr.findKey K key es.toList).run P W=.ok (some (j,v)) W∧L[j]?=some (key,v)∧es[j]?.map (·.key)=some key)):=by
 obtain⟨es,clock,hb,hl⟩:=h
 refine⟨es,clock,hb,hl,fun W=>?_⟩
 have hks:∀ x∈es.toList,∃ l,keyOf P K x.key=some l:=fun x hx=>hk.key (x.key,x.val) (by rw[← hl]; exact List.mem_map.2 ⟨x,hx,rfl⟩)
 rcases law.find W hkey es.toList hks with ⟨h1,h2⟩ | ⟨j,e0,h1,h2,h3⟩
 ·refine .inl ⟨h1,fun p hp=>?_⟩
  rw[← hl]at hp
  obtain⟨x,hx,rfl⟩:=List.mem_map.1 hp
  exact h2 x hx
 ·refine .inr ⟨j,e0.val,h1,?_,?_⟩
  ·rw[← hl,List.getElem?_map,h2]; simp[h3]
  ·rw[← Array.getElem?_toList,h2]; simp[h3]
theorem qhr (law:Keyed P K) (ht:P.underlying t=some (.map K e)) {z:Value} (hz:(zeroValue e).run P w=.ok z w) (h:qep w b L) (hk:KeysOk P K L) {key:Value} {kl:Lit} (hkey:keyOf P K key=some kl) (hno:∀ p∈L,p.1≠key) (c:Bool) :
  (Instr.lookup t (.map (some b)) key c).run P w=.ok (if c then .tuple #[z,.bool false] else z) w:=by
 obtain⟨es,clock,hb,hl,hf⟩:=qqz law h hk hkey
 rcases hf w with ⟨h1,_⟩ | ⟨j,v,_,h2,_⟩
 ·simp[Instr.lookup,run_underlying ht,MapKept.run_getObj_map hb,law.check w _ hkey,h1,hz,Result.andThen]
 ·exact absurd rfl (hno _ (List.mem_of_getElem? h2))
theorem qg0 (law:Keyed P K) (ht:P.underlying t=some (.map K e)) (h:qep w b L) (hk:KeysOk P K L) {key:Value} {kl:Lit} (hkey:keyOf P K key=some kl) {v:Value} (hv:(key,v)∈L) (c:Bool) :
  (Instr.lookup t (.map (some b)) key c).run P w=.ok (if c then .tuple #[v,.bool true] else v) w:=by
 obtain⟨es,clock,hb,hl,hf⟩:=qqz law h hk hkey
 rcases hf w with ⟨_,h1⟩ | ⟨j,u,h1,h2,_⟩
 ·exact absurd rfl (h1 _ hv)
 ·obtain⟨i,hi,hiv⟩:=List.getElem_of_mem hv
  have e1:i=j:=hk.one i j (key,v) (key,u) (by rw[List.getElem?_eq_getElem hi,hiv]) h2 rfl
  subst e1
  rw[List.getElem?_eq_getElem hi,hiv]at h2
  have e2:v=u:=by simpa using h2
  subst e2
  simp[Instr.lookup,run_underlying ht,MapKept.run_getObj_map hb,law.check w _ hkey,h1,Result.andThen]
theorem qhq (law:Keyed P K) (ht:P.underlying t=some (.map K e)) (h:qep w b L) (hk:KeysOk P K L) {key val:Value} {kl:Lit} (hkey:keyOf P K key=some kl) (hno:∀ p∈L,p.1≠key) :
  ∃ w',(Instr.mapUpdate t (.map (some b)) key val).run P w=.ok () w'∧qep w' b (L++[(key,val)])∧w.grownBy w' (some b)∧w'.heap.size=w.heap.size:=by
 obtain⟨es,clock,hb,hl,hf⟩:=qqz law h hk hkey
 rcases hf w with ⟨h1,_⟩ | ⟨j,u,_,h2,_⟩
 ·refine⟨setBlock w b (.map (es.push ⟨key,val,clock⟩) (clock+1)),?_,⟨_,_,heap_setBlock_same hb _,?_⟩,⟨rfl,rfl,rfl,by simp[setBlock],fun i _ hi=>heap_setBlock_other hb _ (fun e=>hi (by rw[e]))⟩,by simp[setBlock]⟩
  ·simp[Instr.mapUpdate,run_underlying ht,MapKept.run_getObj_map hb,law.check w false hkey,h1,MapKept.run_setObj_map _ hb,Result.andThen,setBlock]
  ·rw[Array.toList_push,List.map_append,hl]; rfl
 ·exact absurd rfl (hno _ (List.mem_of_getElem? h2))
theorem qjd (law:Keyed P K) (ht:P.underlying t=some (.map K e)) (h:qep w b L) (hk:KeysOk P K L) {key val v:Value} {kl:Lit} (hkey:keyOf P K key=some kl) (i:Nat) (hv:L[i]?=some (key,v)) :
  ∃ w',(Instr.mapUpdate t (.map (some b)) key val).run P w=.ok () w'∧qep w' b (L.set i (key,val))∧w.grownBy w' (some b)∧w'.heap.size=w.heap.size:=by
 obtain⟨es,clock,hb,hl,hf⟩:=qqz law h hk hkey
 rcases hf w with ⟨_,h1⟩ | ⟨j,u,h1,h2,h3⟩
 ·exact absurd rfl (h1 _ (List.mem_of_getElem? hv))
 ·have e1:i=j:=hk.one i j _ _ hv h2 rfl
  subst e1
  obtain⟨e0,h4,h5⟩:=Option.map_eq_some_iff.1 h3
  refine⟨setBlock w b (.map (es.modify i (fun e'=>{ e' with key:=key,val:=val })) clock),?_,⟨_,_,heap_setBlock_same hb _,?_⟩,⟨rfl,rfl,rfl,by simp[setBlock],fun i _ hi=>heap_setBlock_other hb _ (fun e=>hi (by rw[e]))⟩,by simp[setBlock]⟩
  ·simp[Instr.mapUpdate,run_underlying ht,MapKept.run_getObj_map hb,law.check w false hkey,h1,h4,h5,law.stays w hkey,MapKept.run_setObj_map _ hb,Result.andThen,setBlock]
  ·rw[Array.toList_modify,modify_eq_set _ _ _ _ (by rw[Array.getElem?_toList]; exact h4),List.map_set,hl]
end
end Go.Proofs.YtfkhljmiehdgmaaGreatDoor
namespace Go.Proofs.YtfkhljmiehdgmaaGreatDoor
open Go.RowKit Go.Maps
def qfh (e:Pl.En):Value:=.agg (#[.int .i64 e.1]++(qab e.2))
theorem qdu:Keyed Tryz.prog 180:=Keyed.of_law (deep_law (m:=4) (by decide) (by kernel_rfl) (by kernel_rfl) (by kernel_rfl))
theorem qk4:Keyed Tryz.prog 9:=string_keyed Tryz.underlying9
theorem q1h (d:Nat) (n:Int) (h:(Lit.int .i64 n).wf=true):Tryz.prog.keyLits (d+1) 3 [.int .i64 n]=some [.int .i64 n]:=by
 unfold Program.keyLits; simp[Tryz.underlying3,h]
theorem q6q (d:Nat) (n:Int) (h:(Lit.int .u8 n).wf=true):Tryz.prog.keyLits (d+1) 158 [.int .u8 n]=some [.int .u8 n]:=by
 unfold Program.keyLits; simp[Tryz.underlying158,h]
theorem q6r (d:Nat) (b:Bool):Tryz.prog.keyLits (d+1) 4 [.bool b]=some [.bool b]:=by
 unfold Program.keyLits; simp[Tryz.underlying4]
theorem q75 (d:Nat) (s:ByteArray) (h:s.size≤maxLen):Tryz.prog.keyLits (d+1) 9 [.string s]=some [.string s.data.toList]:=by
 unfold Program.keyLits; simp[Tryz.underlying9,h]
theorem qoe:Tryz.prog.cellsOf 3=1:=by kernel_rfl
theorem qzk:Tryz.prog.cellsOf 158=1:=by kernel_rfl
theorem qzl:Tryz.prog.cellsOf 4=1:=by kernel_rfl
theorem q2h:Tryz.prog.cellsOf 9=1:=by kernel_rfl
theorem qod:Tryz.prog.cellsOf 160=5:=by kernel_rfl
theorem qj0:Tryz.prog.cellsOf 162=10:=by kernel_rfl
theorem qof:Tryz.prog.cellsOf 180=11:=by kernel_rfl
theorem q59 (d:Nat) (r e:Bool) (a b c:Int) (ha:(Lit.int .i64 a).wf=true) (hb:(Lit.int .i64 b).wf=true) (hc:(Lit.int .i64 c).wf=true):∃ l,Tryz.prog.keyLits (d+2) 160 [.bool r,.bool e,.int .i64 a,.int .i64 b,.int .i64 c]=some l:=by
 unfold Program.keyLits
 simp only[Tryz.underlying160]
 simp[qod,qoe,qzl,q1h,q6r,ha,hb,hc]
theorem q0c (d:Nat) (m:Int) (n e:ByteArray) (k rd:Int) (r es:Bool) (a b c:Int) (hm:(Lit.int .u8 m).wf=true) (hn:n.size≤maxLen) (he:e.size≤maxLen) (hk:(Lit.int .i64 k).wf=true) (hr:(Lit.int .i64 rd).wf=true) (ha:(Lit.int .i64 a).wf=true) (hb:(Lit.int .i64 b).wf=true) (hc:(Lit.int .i64 c).wf=true) :
  ∃ l,Tryz.prog.keyLits (d+3) 162 [.int .u8 m,.string n,.string e,.int .i64 k,.int .i64 rd,.bool r,.bool es,.int .i64 a,.int .i64 b,.int .i64 c]=some l:=by
 obtain⟨l,hl⟩:=q59 d r es a b c ha hb hc
 unfold Program.keyLits
 simp only[Tryz.underlying162]
 simp[qj0,qod,qoe,qzk,q2h,q1h,q6q,q75,hm,hn,he,hk,hr,hl]
theorem qz6 {x:Pl.Sx} (h:Pl.SxOk x):(Lit.int .u8 x.st.mode).wf=true∧x.st.name.length≤9∧x.st.elem.length≤8∧(Lit.int .i64 x.st.kind).wf=true∧(Lit.int .i64 (x.st.read:Int)).wf=true∧(Lit.int .i64 x.ma.hex).wf=true∧(Lit.int .i64 x.ma.pct).wf=true:=by
 have h1:=h.st.hi
 have h2:=h.st.name
 have h3:=h.st.wrap
 have h4:=h.st.read
 have h5:=h.ma.hex
 have h6:=h.ma.pct
 have he:x.st.elem.length≤8:=by
  rcases h.st.elem with e | e | e | e | e<;>rw[e]<;>decide
 have hr:x.st.read≤10:=by
  have:x.st.ending.length=x.st.elem.length+2:=rfl
  omega
 exact⟨WalkArith.wf_u8 (by omega),h2,he,WalkArith.wf_i64 (by omega),WalkArith.wf_i64 (by omega),WalkArith.wf_i64 (by omega),WalkArith.wf_i64 (by omega)⟩
theorem qpw {e:Pl.En} (h:Pl.SxOk e.2) (hf:0≤e.2.ma.far∧e.2.ma.far≤3) (hi:e.1≤6):∃ l,keyOf Tryz.prog 180 (qfh e)=some l:=by
 obtain⟨h1,h2,h3,h4,h5,h6,h7⟩:=qz6 h
 obtain⟨d,hs⟩:∃ d,Tryz.prog.types.size+1=(d+3)+1:=⟨Tryz.prog.types.size - 3,by
  have:4≤Tryz.prog.types.size:=by decide +kernel
  omega⟩
 obtain⟨l,hl⟩:=q0c d e.2.st.mode ⟨e.2.st.name.toArray⟩ ⟨e.2.st.elem.toArray⟩ e.2.st.kind e.2.st.read e.2.ma.ref e.2.st.esc e.2.ma.hex e.2.ma.pct e.2.ma.far h1 (by simp[ByteArray.size]; unfold maxLen; omega) (by simp[ByteArray.size]; unfold maxLen; omega) h4 h5 h6 h7 (WalkArith.wf_i64 (by omega))
 have hk:Tryz.prog.keyType 180=true:=by kernel_rfl
 have hfm:(qfh e).formed Tryz.prog 180=true:=by
  unfold qfh Value.formed
  simp[Tryz.underlying180,qof,qab]
 unfold keyOf
 simp only[Tryz.underlying180]
 rw[hk,hfm,hs]
 unfold Program.keyLits
 simp only[Tryz.underlying180]
 have hi64:(Lit.int .i64 (e.1:Int)).wf=true:=WalkArith.wf_i64 (by omega)
 unfold qfh qab bs
 simp[Value.cells,qof,qj0,qoe,q1h,hi64,hl]
end Go.Proofs.YtfkhljmiehdgmaaGreatDoor
namespace Go.Proofs.YtfkhljmiehdgmaaGreatDoor
open Go.RowKit
set_option maxRecDepth 100000 in
set_option maxHeartbeats 800000 in
theorem qpv (x:Pl.Sx) (w:World) (hs:x.st.elem.length≤1000) :
  Calls Tryz.prog 129 #[qad x] w fun e w'=>e=.returned (.string ⟨x.st.ending.toArray⟩)∧Below w.heap.size w w':=by
 have hz:(ByteArray.mk x.st.elem.toArray).size=x.st.elem.length:=by simp[ByteArray.size]
 unfold qad qab bs
 go_enter Tryz.func129,Tryz.ntmps129
 go_wp2
 go_ret
 exact⟨qe0 (by unfold Pl.St.ending; apply ByteArray.ext; simp),(Below.refl _ _).alloc (Nat.le_refl _) _⟩
structure SxAt (w:World) (g:Nat) (s:Pl.Sx):Prop where
 mode:w.cell? ⟨g,0,none⟩=some (.int .u8 (s.st.mode:Int))
 name:w.cell? ⟨g,1,none⟩=some (.string ⟨s.st.name.toArray⟩)
 elem:w.cell? ⟨g,2,none⟩=some (.string ⟨s.st.elem.toArray⟩)
 kind:w.cell? ⟨g,3,none⟩=some (.int .i64 s.st.kind)
 read:w.cell? ⟨g,4,none⟩=some (.int .i64 (s.st.read:Int))
 ref:w.cell? ⟨g,5,none⟩=some (.bool s.ma.ref)
 esc:w.cell? ⟨g,6,none⟩=some (.bool s.st.esc)
 hex:w.cell? ⟨g,7,none⟩=some (.int .i64 s.ma.hex)
 pct:w.cell? ⟨g,8,none⟩=some (.int .i64 s.ma.pct)
 far:w.cell? ⟨g,9,none⟩=some (.int .i64 s.ma.far)
theorem q5u {w:World} {g:Nat} {s:Pl.Sx} {t:TypeId} {fz:Nat×Nat} (h:w.heap[g]?=some (.cells (qab s) t fz)):SxAt w g s:=
 ⟨qaa h 0 _ rfl,qaa h 1 _ rfl,qaa h 2 _ rfl,qaa h 3 _ rfl,qaa h 4 _ rfl,qaa h 5 _ rfl,qaa h 6 _ rfl,qaa h 7 _ rfl,qaa h 8 _ rfl,qaa h 9 _ rfl⟩
theorem qg9 (w:World) (s:Pl.Sx) (t:TypeId):SxAt (w.alloc (.cells (qab s) t)) w.heap.size s:=q5u (heap_alloc_new w _)
theorem SxAt.drew {w:World} {g:Nat} {s:Pl.Sx} (h:SxAt w g s):SxAt w.drew g s:=⟨h.mode,h.name,h.elem,h.kind,h.read,h.ref,h.esc,h.hex,h.pct,h.far⟩
theorem SxAt.kept {w w':World} {B g:Nat} {s:Pl.Sx} (h:SxAt w g s) (hb:Below B w w') (hB:g<B):SxAt w' g s:=
 ⟨(hb.cell (p:=⟨g,0,none⟩) hB).trans h.mode,(hb.cell (p:=⟨g,1,none⟩) hB).trans h.name,(hb.cell (p:=⟨g,2,none⟩) hB).trans h.elem,(hb.cell (p:=⟨g,3,none⟩) hB).trans h.kind,(hb.cell (p:=⟨g,4,none⟩) hB).trans h.read,(hb.cell (p:=⟨g,5,none⟩) hB).trans h.ref,(hb.cell (p:=⟨g,6,none⟩) hB).trans h.esc,(hb.cell (p:=⟨g,7,none⟩) hB).trans h.hex,(hb.cell (p:=⟨g,8,none⟩) hB).trans h.pct,(hb.cell (p:=⟨g,9,none⟩) hB).trans h.far⟩
theorem qpu (s:Pl.St):s.ending.length=s.elem.length+2:=by simp[Pl.St.ending]
theorem q1s (E:List UInt8) (k:Nat) (h:k<(ByteArray.mk E.toArray).size):E[k]?=some ((ByteArray.mk E.toArray)[k]'h):=by
 rw[List.getElem?_eq_getElem (by simpa [ByteArray.size] using h)]; rfl
theorem q1q {E:List UInt8} {k:Nat} {c:UInt8} {h:k<(ByteArray.mk E.toArray).size} (e:((c.toNat:Int)==((ByteArray.mk E.toArray)[k]'h).toNat)=true):E[k]?=some c:=by
 rw[Pl.beq8,beq_iff_eq]at e
 rw[q1s E k h,e]
theorem q1r {E:List UInt8} {k:Nat} {c:UInt8} {h:k<(ByteArray.mk E.toArray).size} (e:((c.toNat:Int)==((ByteArray.mk E.toArray)[k]'h).toNat)=false):¬ E[k]?=some c:=by
 rw[Pl.beq8,beq_eq_false_iff_ne]at e
 rw[q1s E k h]
 intro q
 exact e (Option.some.inj q).symm
theorem qw7 {E:List UInt8} {k:Nat} {c:UInt8} (h:¬ k<E.length):¬ E[k]?=some c:=by
 rw[List.getElem?_eq_none (by omega)]; simp
theorem qth {E:List UInt8} {c:UInt8} {h:0<(ByteArray.mk E.toArray).size} (h0:E[0]?=some 60) (e:((c.toNat:Int)==((ByteArray.mk E.toArray)[0]'h).toNat)=true):c=60:=by
 have:=q1q e
 rw[h0]at this
 exact(Option.some.inj this).symm
theorem qw8 {E:List UInt8} {c:UInt8} {h:0<(ByteArray.mk E.toArray).size} (h0:E[0]?=some 60) (e:((c.toNat:Int)==((ByteArray.mk E.toArray)[0]'h).toNat)=false):¬ c=60:=by
 rintro rfl
 exact q1r e h0
set_option maxRecDepth 100000 in
set_option maxHeartbeats 800000 in
theorem qdo (x:Pl.Sx) (b:UInt8) (w:World) (hs:x.st.elem.length≤1000) :
  Calls Tryz.prog 93 #[qad x,.int .u8 b.toNat] w fun e w'=>e=.returned (.int .i64 (x.st.readEnd b:Nat))∧Below w.heap.size w w':=by
 have hz:(ByteArray.mk x.st.ending.toArray).size=x.st.ending.length:=by simp[ByteArray.size]
 have hl:=qpu x.st
 have he:=fun w=>qpv x w hs
 have HD:Hid (x.st.readEnd b=if x.st.ending[x.st.read]?=some (Pl.small b) then x.st.read+1 else if b=60 then 1 else 0):=rfl
 have HZ:Hid (x.st.ending[0]?=some 60):=rfl
 have hlo:x.st.ending.length≤1002:=by omega
 have h2:0<x.st.ending.length:=by omega
 generalize x.st.ending=E at hz hl he HD HZ hlo h2
 clear hl
 have h2':(0:Int)<(E.length:Int):=by omega
 have hst:=qg9 w x 162
 unfold qab bs at hst
 unfold qad qab bs
 by_cases hlt:x.st.read<E.length
 ·have hlt':(x.st.read:Int)<(E.length:Int):=by omega
  have hle:x.st.read+1≤2000:=by omega
  clear hlo
  go_enter Tryz.func93,Tryz.ntmps93
  go_wp2_with fail
  refine(he _).mono ?_
  rintro e w1 ⟨rfl,hb1⟩
  have hst1:=hst.kept hb1 (by simp)
  have q4:=hst1.read
  have hw:Below w.heap.size w w1:=((Below.refl _ _).alloc (Nat.le_refl _) _).trans (hb1.mono (by simp))
  go_wp2_with fail
  go_quiet ((go_at_call 131; refine qk1 (qh6 b _)))
  go_wp2
  ·go_ret
   exact⟨qa5 (by rw[HD.out,if_pos (q1q ‹_›)]; rfl),qa3 hw _⟩
  ·have n1:=‹(((Pl.small b).toNat:Int)==(((ByteArray.mk E.toArray)[x.st.read]'(by rw[hz]; exact hlt)).toNat:Int))=false›
   have n2:=‹((b.toNat:Int)==(((ByteArray.mk E.toArray)[0]'(by rw[hz]; exact h2)).toNat:Int))=true›
   go_ret
   exact⟨qa5 (by rw[HD.out,if_neg (q1r n1),if_pos (qth HZ.out n2)]; rfl),qa3 hw _⟩
  ·have n1:=‹(((Pl.small b).toNat:Int)==(((ByteArray.mk E.toArray)[x.st.read]'(by rw[hz]; exact hlt)).toNat:Int))=false›
   have n2:=‹((b.toNat:Int)==(((ByteArray.mk E.toArray)[0]'(by rw[hz]; exact h2)).toNat:Int))=false›
   go_ret
   exact⟨qa5 (by rw[HD.out,if_neg (q1r n1),if_neg (qw8 HZ.out n2)]; rfl),qa3 hw _⟩
 ·have hlt':decide ((x.st.read:Int)<(E.length:Int))=false:=by rw[decide_eq_false_iff_not]; omega
  clear hlo
  go_enter Tryz.func93,Tryz.ntmps93
  go_wp2_with fail
  refine(he _).mono ?_
  rintro e w1 ⟨rfl,hb1⟩
  have hst1:=hst.kept hb1 (by simp)
  have q4:=hst1.read
  have hw:Below w.heap.size w w1:=((Below.refl _ _).alloc (Nat.le_refl _) _).trans (hb1.mono (by simp))
  go_wp2_with fail
  go_quiet (fail)
  go_wp2
  ·have n2:=‹((b.toNat:Int)==(((ByteArray.mk E.toArray)[0]'(by rw[hz]; exact h2)).toNat:Int))=true›
   go_ret
   exact⟨qa5 (by rw[HD.out,if_neg (qw7 hlt),if_pos (qth HZ.out n2)]; rfl),qa3 hw _⟩
  ·have n2:=‹((b.toNat:Int)==(((ByteArray.mk E.toArray)[0]'(by rw[hz]; exact h2)).toNat:Int))=false›
   go_ret
   exact⟨qa5 (by rw[HD.out,if_neg (qw7 hlt),if_neg (qw8 HZ.out n2)]; rfl),qa3 hw _⟩
end Go.Proofs.YtfkhljmiehdgmaaGreatDoor
