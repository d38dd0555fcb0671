/-
  Steps of the proof.
-/
import Derived.Test.YtfkhljmiehdgmaaGreatDoorCmAE
import Derived.ScopeJumps
import Derived.WalkMore
set_option maxRecDepth 100000
set_option maxHeartbeats 40000000
namespace Go.Proofs.YtfkhljmiehdgmaaGreatDoor.Pl
variable{x:Sx}{e:En}{n:Nat}
structure SxFit(x:Sx):Prop where
 ok:SxOk x
 far:0<=x.ma.far/\x.ma.far<=3
theorem qiz:SxFit Sx.start:=⟨qjp,by decide⟩
theorem qsy(kind:Int)(m:Nat)(far:Int)(b:UInt8)(h:0<=far/\far<=3):0<=qdu kind m far b/\qdu kind m far b<=3:=by
 unfold qdu
 repeat' split
 all_goals omega
theorem qnu:(0:Int)<=Mk.none.far/\Mk.none.far<=3:=by decide
theorem qs0(m:Nat)(e:Bool)(b:UInt8):0<=(qa7 m e b).far/\(qa7 m e b).far<=3:=by
 unfold qa7;split
 ·exact qnu
 ·split
  ·exact⟨Int.le_refl _,by simp⟩
  ·exact qnu
theorem qvv(s:St)(k:Mk)(b:UInt8)(h:0<=k.far/\k.far<=3):0<=(qey s k b).far/\(qey s k b).far<=3:=by
 unfold qey qko qlj;split
 ·exact qnu
 ·split
  ·exact qs0 _ _ _
  ·split
   ·unfold qcd
    simp only;split
    ·exact qsy _ _ _ _ h
    ·omega
   ·exact qnu
theorem qrh(b:UInt8)(h:SxFit x):SxFit (x.behind b):=⟨qkh b h.ok,qvv _ _ b h.far⟩
theorem qhf(l:List UInt8):∀x:Sx,SxFit x->SxFit (qav x l):=by
 induction l with
 |nil=>intro x h;exact h
 |cons b l ih=>intro x h;exact ih _ (qrh b h)
theorem qim(h:SxFit x):SxFit x.behindHole:=by
 refine⟨qis x h.ok,?_⟩;unfold Sx.behindHole;split
 ·exact⟨by simp,by simp⟩
 ·exact h.far
def qp8(x:Sx):Prop:=x=Sx.none\/SxFit x
theorem qf8(h:SxFit x):x.isNone=false:=qjv h.ok
theorem qkv(h:qp8 x)(hn:¬x.isNone=true):SxFit x:=by
 rcases h with rfl|h
 ·exact absurd rfl hn
 ·exact h
section
variable {α:Type}
theorem qe6{l:List (En×α)}{v:α}(h:qa1 l e=some v):(e,v)∈l:=by
 induction l with
 |nil=>cases h
 |cons p l ih=>
   obtain⟨k,u⟩:=p;unfold qa1 at h;split at h
   ·rename_i hk
    injection h with h;subst h hk;simp
   ·exact List.mem_cons_of_mem _ (ih h)
theorem qin{l:List (En×α)}(h:qa1 l e=Option.none):∀p∈l,p.1≠e:=by
 induction l with
 |nil=>intro p hp;cases hp
 |cons p l ih=>
   obtain⟨k,u⟩:=p;unfold qa1 at h;split at h
   ·cases h
   ·rename_i hk
    intro q hq;rcases List.mem_cons.1 hq with rfl|hq
    ·exact hk
    ·exact ih h q hq
theorem qek{l:List (En×α)}(h:qa1 l e=Option.none)(v:α):qa5 l e v=l++[(e,v)]:=by
 induction l with
 |nil=>rfl
 |cons p l ih=>
   obtain⟨k,u⟩:=p;unfold qa1 at h;split at h
   ·cases h
   ·rename_i hk
    unfold qa5;rw[if_neg hk,ih h];rfl
theorem qhw{l:List (En×α)}{u:α}(h:qa1 l e=some u)(v:α):∃i,l[i]?=some (e,u)/\qa5 l e v=l.set i (e,v):=by
 induction l with
 |nil=>cases h
 |cons p l ih=>
   obtain⟨k,w⟩:=p;unfold qa1 at h;split at h
   ·rename_i hk
    injection h with h;subst h hk;refine⟨0,rfl,?_⟩;unfold qa5;rw[if_pos rfl];rfl
   ·rename_i hk
    obtain⟨i,h1,h2⟩:=ih h;refine⟨i+1,by simpa using h1,?_⟩;unfold qa5;rw[if_neg hk,h2];rfl
theorem qel(l:List (En×α))(e:En)(v:α)(e':En):qa1 (qa5 l e v) e'=if e=e' then some v else qa1 l e':=by
 induction l with
 |nil=>rfl
 |cons p l ih=>
   obtain⟨k,u⟩:=p;unfold qa5;by_cases hk:k=e
   ·rw[if_pos hk]
    subst hk;unfold qa1;split
    ·rfl
    ·rfl
   ·rw[if_neg hk]
    unfold qa1;rw[ih];by_cases h1:k=e'
    ·rw[if_pos h1,if_pos h1,if_neg (fun h=>hk (h1.trans h.symm))]
    ·rw[if_neg h1,if_neg h1]
theorem qqs(l:List (En×α))(e:En)(v:α):(qa5 l e v).length=if qa1 l e=Option.none then l.length+1 else l.length:=by
 split
 ·rename_i h;rw[qek h];simp
 ·rename_i h
  cases hg:qa1 l e with
  |none=>exact absurd hg h
  |some u=>obtain⟨i,_,h2⟩:=qhw hg v;rw[h2];simp
def qjl(l:List (En×α)):Prop:=∀(i j:Nat) (p q:En×α),l[i]?=some p->l[j]?=some q->p.1=q.1->i=j
theorem qkr{l:List (En×α)}(h:qjl l)(e:En)(v:α):qjl (qa5 l e v):=by
 cases hg:qa1 l e with
 |none=>
   rw[qek hg];have hn:=qin hg;intro i j p q hi hj ha;rw[List.getElem?_append]at hi hj;split at hi<;>split at hj
   ·exact h i j p q hi hj ha
   ·exfalso
    rename_i h1 h2;have:j - l.length=0:=by
     have:=(List.getElem?_eq_some_iff.1 hj).1;simp at this;omega
    rw[this]at hj;simp at hj;subst hj;exact hn p (List.mem_of_getElem? hi) ha
   ·exfalso
    have:i - l.length=0:=by
     have:=(List.getElem?_eq_some_iff.1 hi).1;simp at this;omega
    rw[this]at hi;simp at hi;subst hi;exact hn q (List.mem_of_getElem? hj) ha.symm
   ·have h1:=(List.getElem?_eq_some_iff.1 hi).1
    have h2:=(List.getElem?_eq_some_iff.1 hj).1;simp at h1 h2;omega
 |some u=>
   obtain⟨k,h1,h2⟩:=qhw hg v;rw[h2];intro i j p q hi hj ha;have fix:∀(i:Nat) (p:En×α),(l.set k (e,v))[i]?=some p->∃p',l[i]?=some p'/\p'.1=p.1:=by
    intro i p hi;rw[List.getElem?_set]at hi;split at hi
    ·rename_i Ha
     subst Ha;split at hi
     ·injection hi with hi;subst hi;exact⟨_,h1,rfl⟩
     ·cases hi
    ·exact⟨p,hi,rfl⟩
   obtain⟨p',e1,e2⟩:=fix i p hi;obtain⟨q',e3,e4⟩:=fix j q hj;exact h i j p' q' e1 e3 (by rw[e2,e4,ha])
theorem qhm{l:List (En×α)}{v:α}{p:En×α}(h:p∈qa5 l e v):p=(e,v)\/p∈l:=by
 cases hg:qa1 l e with
 |none=>rw[qek hg]at h;simp at h;exact h.symm
 |some u=>
   obtain⟨k,h1,h2⟩:=qhw hg v;rw[h2]at h;rcases List.mem_or_eq_of_mem_set h with h|h
   ·exact .inr h
   ·exact .inl h
end
structure EndsOk(n:Nat)(l:List (En×Sx)):Prop where
 key:∀p∈l,SxFit p.1.2/\1<=p.1.1/\p.1.1<n
 val:∀p∈l,qp8 p.2
 one:qjl l
 few:l.length<=256
theorem qq8(n:Nat):EndsOk n []:=⟨fun _ h=>(by cases h),fun _ h=>(by cases h),fun i j p q h=>(by simp at h),by decide⟩
theorem qh3{l:List (En×Sx)}(h:EndsOk n l){e:En}{v:Sx}(he:SxFit e.2/\1<=e.1/\e.1<n)(hv:qp8 v)(hf:(qa5 l e v).length<=256):EndsOk n (qa5 l e v):=
 ⟨fun p hp=>(qhm hp).elim (fun q=>q▸he) (h.key p),fun p hp=>(qhm hp).elim (fun q=>q▸hv) (h.val p),qkr h.one e v,hf⟩
theorem qqu(n:List UInt8):∀(l:List Src) (i:Nat),qfu n i l=0\/(i<=qfu n i l/\qfu n i l<i+l.length)
 |[],i=>.inl rfl
 |s::l,i=>by
   unfold qfu;split
   ·exact .inr ⟨Nat.le_refl _,by simp⟩
   ·rcases qqu n l (i+1)with h|h
    ·exact .inl h
    ·exact .inr ⟨by omega,by simp;omega⟩
theorem qe4(S:List Src)(n:List UInt8)(h:qai S n≠0):1<=qai S n/\qai S n<S.length:=by
 unfold qai at h |-;rcases qqu n (S.drop 1) 1 with q|q
 ·exact absurd q h
 ·rw[List.length_drop]at q;omega
structure Grew(n:Nat)(s s':Sr):Prop where
 ok:EndsOk n s'.ends
 more:s.ends.length<=s'.ends.length
 has:∀e,qa1 s.ends e≠Option.none->qa1 s'.ends e≠Option.none
 nums:s'.nums=s.nums
 vis:s'.vis=s.vis
 fault:s'.fault=s.fault\/s'.fault=qq6
theorem Grew.refl{s:Sr}(h:EndsOk n s.ends):Grew n s s:=⟨h,Nat.le_refl _,fun _ h=>h,rfl,rfl,.inl rfl⟩
theorem Grew.trans{a b c:Sr}(h:Grew n a b)(k:Grew n b c):Grew n a c:=
 ⟨k.ok,Nat.le_trans h.more k.more,fun e q=>k.has e (h.has e q),k.nums.trans h.nums,k.vis.trans h.vis,by
  rcases k.fault with q|q
  ·rw[q];exact h.fault
  ·exact .inr q⟩
def q99(n:Nat)(beh:Sr->List UInt8->Sx->Sr×Sx)(m:Nat):Prop:=∀s t x,EndsOk n s.ends->m<=s.ends.length->SxFit x->Grew n s (beh s t x).1/\qp8 (beh s t x).2
theorem qk6{m:Nat}{beh:Sr->List UInt8->Sx->Sr×Sx}(hb:q99 n beh m)(P:List Pt):∀(k a:Nat) (s:Sr) (x:Sx),EndsOk n s.ends->m<=s.ends.length->qp8 x->Grew n s (qdh beh P k a s x).1/\qp8 (qdh beh P k a s x).2:=by
 intro k
 induction k with
 |zero=>intro a s x h _ hx;exact⟨Grew.refl h,hx⟩
 |succ k ih=>
   intro a s x h hm hx;unfold qdh;by_cases hn:x.isNone=true
   ·rw[if_pos hn];exact⟨Grew.refl h,hx⟩
   rw[if_neg hn];have hf:=qkv hx hn;cases hp:P[a]? with
   |none=>exact⟨Grew.refl h,hx⟩
   |some p=>
     simp only;split
     ·exact ih _ s _ h hm (.inr (qhf _ _ hf))
     ·split
      ·exact ih _ s _ h hm (.inr (qim hf))
      ·split
       ·exact ih _ s _ h hm hx
       ·split
        ·obtain⟨h1,h2⟩:=hb s p.text x h hm hf
         obtain⟨h3,h4⟩:=ih (a+1) _ _ h1.ok (Nat.le_trans hm h1.more) h2;exact⟨h1.trans h3,h4⟩
        ·exact ih _ s _ h hm hx
theorem qnv:qp8 Sx.none:=.inl rfl
theorem qgd(S:List Src):∀(k m:Nat),257<=m+k->q99 S.length (behV S k) m:=by
 intro k
 induction k with
 |zero=>
   intro m hm s t x h hl hx;have:=h.few;omega
 |succ k ih=>
   intro m hm s t x h hl hx;unfold behV;by_cases h0:qai S t=0
   ·rw[if_pos h0];exact⟨Grew.refl h,.inr hx⟩
   rw[if_neg h0];have Hc:=qe4 S t h0;cases hg:qa1 s.ends (qai S t,x)with
   |some e=>exact⟨Grew.refl h,h.val _ (qe6 hg)⟩
   |none=>
     simp only;by_cases ha:s.ends.length=256
     ·rw[if_pos ha]
      exact⟨⟨h,Nat.le_refl _,fun _ q=>q,rfl,rfl,.inr rfl⟩,qnv⟩
     rw[if_neg ha];have hb:(qa5 s.ends (qai S t,x) Sx.none).length=s.ends.length+1:=by rw[qek hg];simp
     have Hb:EndsOk S.length (qa5 s.ends (qai S t,x) Sx.none):=qh3 h ⟨hx,Hc⟩ qnv (by have:=h.few;omega);obtain⟨g1,g2⟩:=qk6 (ih (s.ends.length+1) (by omega)) (qab S (qai S t)) ((qab S (qai S t)).length+1) 0 { s with ends:=qa5 s.ends (qai S t,x) Sx.none } x Hb (by show s.ends.length+1<=(qa5 _ _ _).length;omega) (.inr hx);generalize qdh (behV S k) (qab S (qai S t)) ((qab S (qai S t)).length+1) 0 { s with ends:=qa5 s.ends (qai S t,x) Sx.none } x=r at g1 g2 |-;have He:s.ends.length+1<=r.1.ends.length:=by have:=g1.more;rw[show({ s with ends:=qa5 s.ends (qai S t,x) Sx.none }:Sr).ends.length=s.ends.length+1 from hb]at this;exact this
     have hc:qa1 r.1.ends (qai S t,x)≠Option.none:=g1.has _ (by show qa1 (qa5 _ _ _) _≠_;rw[qel,if_pos rfl];simp);have Ha:(qa5 r.1.ends (qai S t,x) r.2).length=r.1.ends.length:=by rw[qqs,if_neg hc]
     refine⟨⟨qh3 g1.ok ⟨hx,Hc⟩ g2 (by rw[Ha];exact g1.ok.few),?_,?_,g1.nums,g1.vis,g1.fault⟩,g2⟩
     ·show s.ends.length<=(qa5 _ _ _).length;omega
     ·intro e he
      show qa1 (qa5 _ _ _) e≠_;rw[qel];split
      ·simp
      ·refine g1.has e ?_
       show qa1 (qa5 _ _ _) e≠_;rw[qel];split
       ·simp
       ·exact he
end Go.Proofs.YtfkhljmiehdgmaaGreatDoor.Pl
namespace Go.Proofs.YtfkhljmiehdgmaaGreatDoor
open Go.RowKit
variable{w:World}{g k:Nat}{s:Pl.Sx}{E:List UInt8}{c:UInt8}
theorem qra(x:Pl.Sx)(w:World)(hs:x.st.elem.length<=1000) :
  Calls Tryz.prog 129 #[qap x] w fun e w'=>e=.returned (.string ⟨x.st.ending.toArray⟩)/\Below w.heap.size w w':=by
 have hz:(ByteArray.mk x.st.elem.toArray).size=x.st.elem.length:=by simp[ByteArray.size]
 unfold qap qaf bs;go_enter Tryz.func129,Tryz.ntmps129
 go_wp2
 go_ret
 exact⟨qdd (by unfold Pl.St.ending;apply ByteArray.ext;simp),ba _⟩
structure SxAt(w:World)(g:Nat)(s:Pl.Sx):Prop where
 mode:w.cell? ⟨g,0,none⟩=some (.int .u8 (s.st.mode:Int))
 name:w.cell? ⟨g,1,none⟩=some (.string ⟨s.st.name.toArray⟩)
 elem:w.cell? ⟨g,2,none⟩=some (.string ⟨s.st.elem.toArray⟩)
 kind:w.cell? ⟨g,3,none⟩=some (.int .i64 s.st.kind)
 read:w.cell? ⟨g,4,none⟩=some (.int .i64 (s.st.read:Int))
 ref:w.cell? ⟨g,5,none⟩=some (.bool s.ma.ref)
 esc:w.cell? ⟨g,6,none⟩=some (.bool s.st.esc)
 hex:w.cell? ⟨g,7,none⟩=some (.int .i64 s.ma.hex)
 pct:w.cell? ⟨g,8,none⟩=some (.int .i64 s.ma.pct)
 far:w.cell? ⟨g,9,none⟩=some (.int .i64 s.ma.far)
theorem q8i{t:TypeId}{fz:Nat×Nat}(h:w.heap[g]?=some (.cells (qaf s) t fz)):SxAt w g s:=
 ⟨qaa h 0 _ rfl,qaa h 1 _ rfl,qaa h 2 _ rfl,qaa h 3 _ rfl,qaa h 4 _ rfl,qaa h 5 _ rfl,qaa h 6 _ rfl,qaa h 7 _ rfl,qaa h 8 _ rfl,qaa h 9 _ rfl⟩
theorem qjq(w:World)(s:Pl.Sx)(t:TypeId):SxAt (w.alloc (.cells (qaf s) t)) w.heap.size s:=q8i (heap_alloc_new w _)
theorem SxAt.drew(h:SxAt w g s):SxAt w.drew g s:=⟨h.mode,h.name,h.elem,h.kind,h.read,h.ref,h.esc,h.hex,h.pct,h.far⟩
theorem SxAt.kept{w':World}{B:Nat}(h:SxAt w g s)(hb:Below B w w')(hB:g<B):SxAt w' g s:=
 ⟨(hb.cell (p:=⟨g,0,none⟩) hB).trans h.mode,(hb.cell (p:=⟨g,1,none⟩) hB).trans h.name,(hb.cell (p:=⟨g,2,none⟩) hB).trans h.elem,(hb.cell (p:=⟨g,3,none⟩) hB).trans h.kind,(hb.cell (p:=⟨g,4,none⟩) hB).trans h.read,(hb.cell (p:=⟨g,5,none⟩) hB).trans h.ref,(hb.cell (p:=⟨g,6,none⟩) hB).trans h.esc,(hb.cell (p:=⟨g,7,none⟩) hB).trans h.hex,(hb.cell (p:=⟨g,8,none⟩) hB).trans h.pct,(hb.cell (p:=⟨g,9,none⟩) hB).trans h.far⟩
theorem qq9(s:Pl.St):s.ending.length=s.elem.length+2:=by simp[Pl.St.ending]
theorem q4f(E:List UInt8)(k:Nat)(h:k<(ByteArray.mk E.toArray).size):E[k]?=some ((ByteArray.mk E.toArray)[k]'h):=by
 rw[List.getElem?_eq_getElem (by simpa [ByteArray.size]using h)];rfl
theorem q4d{h:k<(ByteArray.mk E.toArray).size}(e:((c.toNat:Int)==((ByteArray.mk E.toArray)[k]'h).toNat)=true):E[k]?=some c:=by
 rw[Pl.beq8,beq_iff_eq]at e;rw[q4f E k h,e]
theorem q4e{h:k<(ByteArray.mk E.toArray).size}(e:((c.toNat:Int)==((ByteArray.mk E.toArray)[k]'h).toNat)=false):¬E[k]?=some c:=by
 rw[Pl.beq8,beq_eq_false_iff_ne]at e;rw[q4f E k h];intro q;exact e (Option.some.inj q).symm
theorem qzl(h:¬k<E.length):¬E[k]?=some c:=by
 rw[List.getElem?_eq_none (by omega)];simp
theorem qu2{h:0<(ByteArray.mk E.toArray).size}(h0:E[0]?=some 60)(e:((c.toNat:Int)==((ByteArray.mk E.toArray)[0]'h).toNat)=true):c=60:=by
 have:=q4d e;rw[h0]at this;exact(Option.some.inj this).symm
theorem qzm{h:0<(ByteArray.mk E.toArray).size}(h0:E[0]?=some 60)(e:((c.toNat:Int)==((ByteArray.mk E.toArray)[0]'h).toNat)=false):¬c=60:=by
 rintro rfl;exact q4e e h0
theorem qw1(x:Pl.Sx)(b:UInt8)(w:World)(hs:x.st.elem.length<=1000) :
  Calls Tryz.prog 93 #[qap x,.int .u8 b.toNat] w fun e w'=>e=.returned (.int .i64 (x.st.readEnd b:Nat))/\Below w.heap.size w w':=by
 have hz:(ByteArray.mk x.st.ending.toArray).size=x.st.ending.length:=by simp[ByteArray.size]
 have hl:=qq9 x.st;have he:=fun w=>qra x w hs;have HD:Hid (x.st.readEnd b=if x.st.ending[x.st.read]?=some (Pl.qcr b)then x.st.read+1 else if b=60 then 1 else 0):=rfl;have HZ:Hid (x.st.ending[0]?=some 60):=rfl;have Hb:x.st.ending.length<=1002:=by omega
 have h2:0<x.st.ending.length:=by omega
 generalize x.st.ending=E at hz hl he HD HZ Hb h2;clear hl;have He:(0:Int)<(E.length:Int):=by omega
 have hc:=qjq w x 162;unfold qaf bs at hc;unfold qap qaf bs;by_cases hb:x.st.read<E.length
 ·have Hc:(x.st.read:Int)<(E.length:Int):=by omega
  have hf:x.st.read+1<=2000:=by omega
  clear Hb;go_enter Tryz.func93,Tryz.ntmps93
  go_wp2_with fail
  refine(he _).mono ?_;rintro e w1 ⟨rfl,Ha⟩;have ha:=hc.kept Ha (by simp);have q4:=ha.read;have hw:Below w.heap.size w w1:=(ba _).trans (Ha.mono (by simp));go_wp2_with fail
  go_quiet ((go_at_call 131;refine qqr (qlx b _)))
  go_wp2
  ·go_ret
   exact⟨qan (by rw[HD.out,if_pos (q4d ‹_›)];rfl),qay hw _⟩
  ·have n1:=‹(((Pl.qcr b).toNat:Int)==(((ByteArray.mk E.toArray)[x.st.read]'(by rw[hz];exact hb)).toNat:Int))=false›
   have n2:=‹((b.toNat:Int)==(((ByteArray.mk E.toArray)[0]'(by rw[hz];exact h2)).toNat:Int))=true›;go_ret
   exact⟨qan (by rw[HD.out,if_neg (q4e n1),if_pos (qu2 HZ.out n2)];rfl),qay hw _⟩
  ·have n1:=‹(((Pl.qcr b).toNat:Int)==(((ByteArray.mk E.toArray)[x.st.read]'(by rw[hz];exact hb)).toNat:Int))=false›
   have n2:=‹((b.toNat:Int)==(((ByteArray.mk E.toArray)[0]'(by rw[hz];exact h2)).toNat:Int))=false›;go_ret
   exact⟨qan (by rw[HD.out,if_neg (q4e n1),if_neg (qzm HZ.out n2)];rfl),qay hw _⟩
 ·have Hc:decide ((x.st.read:Int)<(E.length:Int))=false:=by rw[decide_eq_false_iff_not];omega
  clear Hb;go_enter Tryz.func93,Tryz.ntmps93
  go_wp2_with fail
  refine(he _).mono ?_;rintro e w1 ⟨rfl,Ha⟩;have ha:=hc.kept Ha (by simp);have q4:=ha.read;have hw:Below w.heap.size w w1:=(ba _).trans (Ha.mono (by simp));go_wp2_with fail
  go_quiet (fail)
  go_wp2
  ·have n2:=‹((b.toNat:Int)==(((ByteArray.mk E.toArray)[0]'(by rw[hz];exact h2)).toNat:Int))=true›
   go_ret
   exact⟨qan (by rw[HD.out,if_neg (qzl hb),if_pos (qu2 HZ.out n2)];rfl),qay hw _⟩
  ·have n2:=‹((b.toNat:Int)==(((ByteArray.mk E.toArray)[0]'(by rw[hz];exact h2)).toNat:Int))=false›
   go_ret
   exact⟨qan (by rw[HD.out,if_neg (qzl hb),if_neg (qzm HZ.out n2)];rfl),qay hw _⟩
end Go.Proofs.YtfkhljmiehdgmaaGreatDoor
namespace Go.Proofs.YtfkhljmiehdgmaaGreatDoor
open Go.RowKit Go.Maps
variable{B:Nat}{w w':World}{S:List Pl.Src}{vv:Value}{s:Pl.Sr}{l:List (Pl.En×Pl.Sx)}{e:Pl.En}
theorem qje{a b:Pl.En}(h:qf9 a=qf9 b):a=b:=by
 obtain⟨i,⟨⟨m,n,e,k,r,es⟩,⟨rf,hx,pc,fr⟩⟩⟩:=a;obtain⟨i',⟨⟨m',n',e',k',r',es'⟩,⟨rf',hb,pc',fr'⟩⟩⟩:=b;unfold qf9 qaf bs at h;simp only[List.append_toArray,List.cons_append,List.nil_append,Value.agg.injEq,Array.mk.injEq,List.cons.injEq,Value.int.injEq,true_and,Value.string.injEq,Value.bool.injEq,and_true,ByteArray.mk.injEq]at h;obtain⟨h1,h2,h3,h4,h5,h6,h7,h8,h9,ha,Ha⟩:=h;have e1:i=i':=by omega
 have e2:m=m':=by omega
 have e6:r=r':=by omega
 subst e1 e2 e6 h3 h4 h5 h7 h8 h9 ha Ha;rfl
structure Fix where
 g:Nat
 bS:Nat
 bp:Nat
 be:Nat
 bn:Nat
 pv:Nat->Value
def qkj(F:Fix)(n:Nat)(vv:Value)(f:Pl.Ft):Array Value:=#[.slice (some ⟨F.bS,0,none⟩) n n,.map (some F.bp),.map (some F.be),.map (some F.bn),vv,.int .i64 f.code,.int .i64 f.kind,bs f.place,.int .i64 f.pos]
structure SrcAt(w:World)(B:Nat)(F:Fix)(S:List Pl.Src):Prop where
 blk:∃cs fz,w.heap[F.bS]?=some (.cells cs 173 fz)
 name:∀i s,S[i]?=some s->w.cell? ⟨F.bS,i*2,none⟩=some (bs s.name)
 slice:∀i s,S[i]?=some s->w.cell? ⟨F.bS,i*2+1,none⟩=some (F.pv i)
 row:∀i s,S[i]?=some s->w.ownsRow B 229 4 (F.pv i) s.parts.length (qb0 s.parts)
def qbu:Nat->List Pl.Src->List (Value×Value)
 |_,[]=>[]
 |i,s::l=>(bs s.name,.int .i64 i)::qbu (i+1) l
def qnl(l:List (Pl.En×Pl.Sx)):List (Value×Value):=l.map fun p=>(qf9 p.1,qap p.2)
structure SeAt(w:World)(B:Nat)(F:Fix)(S:List Pl.Src)(vv:Value)(s:Pl.Sr):Prop where
 blk:w.heap[F.g]?=some (.cells (qkj F S.length vv s.fault) 178 (0,0))
 src:SrcAt w B F S
 places:qfa w F.bp (qbu 1 (S.drop 1))
 ends:qfa w F.be (qnl s.ends)
 le:B<=F.g/\B<=F.be
 apart:F.g≠F.be/\F.bp≠F.be
structure Cue(B:Nat)(F:Fix)(w w':World):Prop where
 below:Below B w w'
 keep:∀k,k<w.heap.size->k≠F.g->k≠F.be->w'.heap[k]?=w.heap[k]?
theorem Cue.refl(B:Nat)(F:Fix)(w:World):Cue B F w w:=⟨Below.refl _ _,fun _ _ _ _=>rfl⟩
theorem Cue.trans{F:Fix}{a b c:World}(h:Cue B F a b)(k:Cue B F b c):Cue B F a c:=
 ⟨h.below.trans k.below,fun i hi h1 h2=>(k.keep i (Nat.lt_of_lt_of_le hi h.below.size) h1 h2).trans (h.keep i hi h1 h2)⟩
theorem Cue.of_below{F:Fix}(h:Below w.heap.size w w')(hB:B<=w.heap.size):Cue B F w w':=
 ⟨h.mono hB,fun k hk _ _=>h.block k hk⟩
theorem SrcAt.kept{F:Fix}(h:SrcAt w B F S)(hb:w'.heap[F.bS]?=w.heap[F.bS]?)(hr:∀i s k,S[i]?=some s->(F.pv i).ownBlock=some k->w'.heap[k]?=w.heap[k]?):SrcAt w' B F S:=by
 refine⟨?_,fun i s hs=>(World.cell?_of_block hb).trans (h.name i s hs),fun i s hs=>(World.cell?_of_block hb).trans (h.slice i s hs),fun i s hs=>qac (h.row i s hs) fun k hk=>hr i s k hs hk⟩;obtain⟨cs,fz,hc⟩:=h.blk;exact⟨cs,fz,hb.trans hc⟩
theorem qiu:(178:TypeId)≠173:=by decide
theorem qj3:(178:TypeId)≠229:=by decide
theorem qak{k b:Nat}{L:List (Value×Value)}{cs:Array Value}{t:TypeId}{fz:Nat×Nat}(h:w.heap[k]?=some (.cells cs t fz))(hm:qfa w b L):k≠b:=by
 rintro rfl;obtain⟨es,c,hb,_⟩:=hm;rw[h]at hb;cases hb
theorem SeAt.srcKept{F:Fix}(h:SeAt w B F S vv s)(hk:∀k,k<w.heap.size->k≠F.g->k≠F.be->w'.heap[k]?=w.heap[k]?):SrcAt w' B F S:=by
 obtain⟨cs,fz,hc⟩:=h.src.blk;refine h.src.kept (hk _ (Array.getElem?_eq_some_iff.1 hc).1 (fun e=>qae h.blk hc qiu e.symm) (qak hc h.ends)) fun i s' k hs hv=>?_;obtain⟨cur,ha⟩:=qad (h.src.row i s' hs) k hv;exact hk k (Array.getElem?_eq_some_iff.1 ha).1 (fun e=>qae h.blk ha qj3 e.symm) (qak ha h.ends)
theorem SeAt.below{F:Fix}(h:SeAt w B F S vv s)(hb:Below w.heap.size w w'):SeAt w' B F S vv s:=
 ⟨(hb.block _ (lta h.blk)).trans h.blk,h.srcKept fun k hk _ _=>hb.block k hk,h.places.heap (hb.block _ h.places.lt),h.ends.heap (hb.block _ h.ends.lt),h.le,h.apart⟩
theorem SeAt.alloc{F:Fix}(h:SeAt w B F S vv s)(o:Obj):SeAt (w.alloc o) B F S vv s:=h.below (ba o)
theorem SeAt.drewN{F:Fix}(h:SeAt w B F S vv s)(n:Nat):SeAt (w.drewN n) B F S vv s:=⟨h.blk,h.src.kept rfl fun _ _ _ _ _=>rfl,h.places,h.ends,h.le,h.apart⟩
theorem SeAt.other{F:Fix}(h:SeAt w B F S vv s){k:Nat}{cs:Array Value}{t:TypeId}{fz:Nat×Nat}(hk:w.heap[k]?=some (.cells cs t fz))(h1:t≠178)(h2:t≠173)(h3:t≠229)(j:Nat)(v:Value):SeAt (w.setCell ⟨k,j,none⟩ v) B F S vv s:=by
 have ha:∀i,i≠k->(w.setCell ⟨k,j,none⟩ v).heap[i]?=w.heap[i]?:=fun i hi=>Below.heap_setCell _ _ _ _ hi;obtain⟨cs',fz',hc⟩:=h.src.blk;refine⟨(ha _ (qae h.blk hk h1.symm)).trans h.blk,h.src.kept (ha _ (qae hc hk h2.symm)) (fun i s' q hs hv=>?_),h.places.heap (ha _ (qak hk h.places).symm),h.ends.heap (ha _ (qak hk h.ends).symm),h.le,h.apart⟩;obtain⟨cur,Ha⟩:=qad (h.src.row i s' hs) q hv;exact ha q (qae Ha hk h3.symm)
theorem SeAt.cell{F:Fix}(h:SeAt w B F S vv s):∀(j:Nat) (v:Value),(qkj F S.length vv s.fault)[j]?=some v->w.cell? ⟨F.g,j,none⟩=some v:=fun j v hv=>qaa h.blk j v (by simpa using hv)
theorem SeAt.thaw{F:Fix}(h:SeAt w B F S vv s)(j:Nat):w.frozen? ⟨F.g,j,none⟩=false:=by simp[World.frozen?,h.blk]
theorem SeAt.put{F:Fix}(h:SeAt w B F S vv s){l:List (Pl.En×Pl.Sx)}(hm:qfa w' F.be (qnl l))(hg:w.grownBy w' (some F.be)):SeAt w' B F S vv { s with ends:=l }:=by
 have hk:∀k,k<w.heap.size->k≠F.be->w'.heap[k]?=w.heap[k]?:=fun k hk ha=>hg.block k hk (fun e=>ha (Option.some.inj e));exact⟨(hk _ (lta h.blk) h.apart.1).trans h.blk,h.srcKept fun k Ha _ h3=>hk k Ha h3,h.places.heap (hk _ h.places.lt h.apart.2),hm,h.le,h.apart⟩
theorem Cue.put{F:Fix}(hB:B<=F.be)(ha:F.be<w.heap.size)(hg:w.grownBy w' (some F.be)):Cue B F w w':=
 ⟨⟨hg.os,hg.tape,hg.output,hg.size,fun k hk=>hg.block k (by omega) (fun x=>by have:=Option.some.inj x;omega)⟩,fun k hk _ h2=>hg.block k hk (fun e=>h2 (Option.some.inj e))⟩
theorem qm3(n:List UInt8):∀(l:List Pl.Src) (i:Nat),(Pl.qfu n i l=0->1<=i->∀p∈qbu i l,p.1≠bs n)/\(Pl.qfu n i l≠0->(bs n,Value.int .i64 (Pl.qfu n i l))∈qbu i l)
 |[],i=>⟨fun _ _ p hp=>(by cases hp),fun h=>absurd rfl h⟩
 |s::l,i=>by
   have ih:=qm3 n l (i+1);unfold Pl.qfu qbu;by_cases h:s.name=n
   ·rw[if_pos h]
    exact⟨fun h1 h2=>by omega,fun _=>by rw[h];simp⟩
   ·rw[if_neg h]
    refine⟨fun h1 h2 p hp=>?_,fun h1=>List.mem_cons_of_mem _ (ih.2 h1)⟩;rcases List.mem_cons.1 hp with rfl|hp
    ·intro e
     unfold bs at e;injection e with e;injection e with e;exact h (Array.toList_inj.2 e)
    ·exact ih.1 h1 (by omega) p hp
theorem qw8(l:List Pl.Src):∀(i:Nat) (p:Value×Value),p∈qbu i l->∃s∈l,p.1=bs s.name:=by
 induction l with
 |nil=>intro i p hp;cases hp
 |cons s l ih=>
   intro i p hp;rcases List.mem_cons.1 hp with rfl|hp
   ·exact⟨s,by simp,rfl⟩
   ·obtain⟨s',h1,h2⟩:=ih (i+1) p hp
    exact⟨s',List.mem_cons_of_mem _ h1,h2⟩
theorem qqt(l:List Pl.Src):∀(i k:Nat) (p:Value×Value),(qbu i l)[k]?=some p->∃s,l[k]?=some s/\p.1=bs s.name:=by
 induction l with
 |nil=>intro i k p hp;simp[qbu]at hp
 |cons s l ih=>
   intro i k p hp;cases k with
   |zero=>simp only[qbu,List.getElem?_cons_zero,Option.some.injEq]at hp;subst hp;exact⟨s,rfl,rfl⟩
   |succ k=>
     obtain⟨s',h1,h2⟩:=ih (i+1) k p (by simpa [qbu]using hp);exact⟨s',by simpa using h1,h2⟩
structure SrcsOk(S:List Pl.Src):Prop where
 few:1<=S.length/\S.length<=7
 one:∀(i j:Nat) (a b:Pl.Src),1<=i->1<=j->S[i]?=some a->S[j]?=some b->a.name=b.name->i=j
 short:∀(i:Nat) (a:Pl.Src),S[i]?=some a->a.name.length<=100000
 parts:∀(i:Nat) (a:Pl.Src),S[i]?=some a->a.parts.length<=2000/\∀p∈a.parts,p.text.length<=2000/\p.pos<=2000/\p.mate<=2000
 wf:∀(i:Nat) (a:Pl.Src),S[i]?=some a->Pl.Wf 0 a.parts
theorem zaz{a b:List UInt8}(h:bs a=bs b):a=b:=by
 unfold bs at h;injection h with h;injection h with h;exact Array.toList_inj.2 h
theorem qwp(s:ByteArray)(h:s.size<=maxLen):∃l,keyOf Tryz.prog 9 (.string s)=some l:=by
 unfold keyOf mapKey;simp[Tryz.underlying9,h]
theorem qye(l:List UInt8):(⟨l.toArray⟩:ByteArray).size=l.length:=by simp[ByteArray.size]
theorem qou(h:SrcsOk S):KeysOk Tryz.prog 9 (qbu 1 (S.drop 1)):=by
 refine⟨fun p hp=>?_,fun i j p q hi hj ha=>?_⟩
 ·obtain⟨s,hs,e⟩:=qw8 _ _ _ hp
  obtain⟨k,hk⟩:=List.getElem?_of_mem (List.mem_of_mem_drop hs);rw[e];exact qwp _ (by rw[qye];have:=h.short k s hk;unfold maxLen;omega)
 ·obtain⟨a,h1,h2⟩:=qqt _ _ _ _ hi
  obtain⟨b,h3,h4⟩:=qqt _ _ _ _ hj;rw[List.getElem?_drop]at h1 h3;have:=h.one (1+i) (1+j) a b (by omega) (by omega) h1 h3 (zaz (by rw[<-h2,<-h4,ha]));omega
theorem qze(w:World):(zeroValue 3).run Tryz.prog w=.ok (.int .i64 0) w:=by
 have e:Tryz.t3.zero=some (.int .i64 0):=by kernel_rfl
 simp[zeroValue,go_sem,e]
theorem SeAt.place{F:Fix}(h:SeAt w B F S vv s)(hS:SrcsOk S)(n:List UInt8)(hn:n.length<=100000):(Instr.lookup 174 (.map (some F.bp)) (.string ⟨n.toArray⟩) false).run Tryz.prog w=.ok (.int .i64 (Pl.qai S n:Nat)) w:=by
 obtain⟨kl,ha⟩:=qwp ⟨n.toArray⟩ (by rw[qye];unfold maxLen;omega);obtain⟨f1,f2⟩:=qm3 n (S.drop 1) 1;by_cases h0:Pl.qai S n=0
 ·rw[h0]
  exact qif qmb Tryz.underlying174 (qze w) h.places (qou hS) ha (f1 h0 (Nat.le_refl _)) false
 ·exact qhl qmb Tryz.underlying174 h.places (qou hS) ha (f2 h0) false
theorem qs5{i:Nat}{p:Value×Value}(h:(qnl l)[i]?=some p):∃q,l[i]?=some q/\p=(qf9 q.1,qap q.2):=by
 unfold qnl at h;rw[List.getElem?_map]at h;obtain⟨q,h1,h2⟩:=Option.map_eq_some_iff.1 h;exact⟨q,h1,h2.symm⟩
theorem qlr{n:Nat}(h:Pl.EndsOk n l)(hn:n<=7):KeysOk Tryz.prog 180 (qnl l):=by
 refine⟨fun p hp=>?_,fun i j p q hi hj ha=>?_⟩
 ·obtain⟨i,hi⟩:=List.getElem?_of_mem hp
  obtain⟨r,h1,rfl⟩:=qs5 hi;have:=h.key r (List.mem_of_getElem? h1);exact qrb this.1.ok this.1.far (by omega)
 ·obtain⟨a,h1,rfl⟩:=qs5 hi
  obtain⟨b,h2,rfl⟩:=qs5 hj;exact h.one i j a b h1 h2 (qje ha)
theorem q0i(w:World):(zeroValue 162).run Tryz.prog w=.ok (qap Pl.Sx.none) w:=by
 have e:qap Pl.Sx.none=.agg #[.int .u8 0,.string ⟨#[]⟩,.string ⟨#[]⟩,.int .i64 0,.int .i64 0,.bool false,.bool false,.int .i64 0,.int .i64 0,.int .i64 0]:=rfl;rw[e];have e:Tryz.t162.zero=some (.agg #[.int .u8 0,.string ⟨#[]⟩,.string ⟨#[]⟩,.int .i64 0,.int .i64 0,.bool false,.bool false,.int .i64 0,.int .i64 0,.int .i64 0]):=by kernel_rfl
 simp[zeroValue,go_sem,e]
theorem qvc(h:Pl.qa1 l e=none):∀p∈qnl l,p.1≠qf9 e:=by
 intro p hp;unfold qnl at hp;obtain⟨q,h1,rfl⟩:=List.mem_map.1 hp;exact fun x=>Pl.qin h q h1 (qje x)
theorem q4p{x:Pl.Sx}(h:Pl.qa1 l e=some x):(qf9 e,qap x)∈qnl l:=List.mem_map.2 ⟨(e,x),Pl.qe6 h,rfl⟩
theorem SeAt.look{F:Fix}(h:SeAt w B F S vv s)(hS:SrcsOk S)(ho:Pl.EndsOk S.length s.ends)(e:Pl.En)(he:Pl.SxFit e.2)(hi:e.1<=6)(c:Bool) :
  (Instr.lookup 175 (.map (some F.be)) (qf9 e) c).run Tryz.prog w=.ok (if c then .tuple #[qap ((Pl.qa1 s.ends e).getD Pl.Sx.none),.bool (Pl.qa1 s.ends e).isSome]else qap ((Pl.qa1 s.ends e).getD Pl.Sx.none)) w:=by
 obtain⟨kl,ha⟩:=qrb he.ok he.far hi;cases hg:Pl.qa1 s.ends e with
 |none=>exact qif qeh Tryz.underlying175 (q0i w) h.ends (qlr ho hS.few.2) ha (qvc hg) c
 |some x=>exact qhl qeh Tryz.underlying175 h.ends (qlr ho hS.few.2) ha (q4p hg) c
theorem SeAt.store{F:Fix}(h:SeAt w B F S vv s)(hS:SrcsOk S)(ho:Pl.EndsOk S.length s.ends)(e:Pl.En)(he:Pl.SxFit e.2)(hi:e.1<=6)(x:Pl.Sx) :
  ∃w',(Instr.mapUpdate 175 (.map (some F.be)) (qf9 e) (qap x)).run Tryz.prog w=.ok () w'/\SeAt w' B F S vv { s with ends:=Pl.qa5 s.ends e x }/\Cue B F w w'/\w'.heap.size=w.heap.size:=by
 obtain⟨kl,ha⟩:=qrb he.ok he.far hi;cases hg:Pl.qa1 s.ends e with
 |none=>
   obtain⟨w',h1,h2,h3,h4⟩:=qie (val:=qap x) qeh Tryz.underlying175 h.ends (qlr ho hS.few.2) ha (qvc hg);refine⟨w',h1,h.put ?_ h3,Cue.put h.le.2 h.ends.lt h3,h4⟩;rw[Pl.qek hg];unfold qnl at h2 |-;rw[List.map_append];exact h2
 |some y=>
   obtain⟨i,i1,i2⟩:=Pl.qhw hg x;obtain⟨w',h1,h2,h3,h4⟩:=qj5 (val:=qap x) (v:=qap y) qeh Tryz.underlying175 h.ends (qlr ho hS.few.2) ha i (by unfold qnl;rw[List.getElem?_map,i1];rfl);refine⟨w',h1,h.put ?_ h3,Cue.put h.le.2 h.ends.lt h3,h4⟩;rw[i2];unfold qnl at h2 |-;rw[List.map_set];exact h2
end Go.Proofs.YtfkhljmiehdgmaaGreatDoor
namespace Go.Proofs.YtfkhljmiehdgmaaGreatDoor
open Go.RowKit
variable{w:World}{g B:Nat}{P:Program}{a:Act}
def qfn(w:World)(g:Nat):Prop:=∃cs t,w.heap[g]?=some (.cells cs t (0,0))/\cs.size=6
theorem qfn.lt(h:qfn w g):g<w.heap.size:=by
 obtain⟨cs,t,h,_⟩:=h;exact(Array.getElem?_eq_some_iff.1 h).1
theorem qfn.kept{w':World}(h:qfn w g)(hb:Below B w w')(hB:g<B):qfn w' g:=by
 obtain⟨cs,t,h,hs⟩:=h;exact⟨cs,t,(hb.block g hB).trans h,hs⟩
theorem qfn.alloc(h:qfn w g)(o:Obj):qfn (w.alloc o) g:=h.kept ((Below.refl _ w).alloc (Nat.le_refl _) o) h.lt
theorem qfn.drew(h:qfn w g):qfn w.drew g:=h
theorem qom(w:World)(g:Nat)(cs:Array Value)(t:TypeId)(hg:w.heap.size=g)(hs:cs.size=6):qfn (w.alloc (.cells cs t)) g:=by
 subst hg;exact⟨cs,t,heap_alloc_new w _,hs⟩
theorem qfn.cell(h:qfn w g)(j:Nat)(hj:j<6):∃v,w.cell? ⟨g,j,none⟩=some v:=by
 obtain⟨cs,t,h,hs⟩:=h;exact⟨cs[j],by rw[cell_of_row w g j cs t _ h,Array.getElem?_eq_getElem (by omega)]⟩
theorem qfn.thaw(h:qfn w g)(j:Nat):w.frozen? ⟨g,j,none⟩=false:=by
 obtain⟨cs,t,h,hs⟩:=h;simp[World.frozen?,h]
def set6(w:World)(g:Nat)(v0 v1 v2 v3 v4 v5:Value):World:=(((((w.setCell ⟨g,0,none⟩ v0).setCell ⟨g,1,none⟩ v1).setCell ⟨g,2,none⟩ v2).setCell ⟨g,3,none⟩ v3).setCell ⟨g,4,none⟩ v4).setCell ⟨g,5,none⟩ v5
theorem qj0(h:qfn w g)(v0 v1 v2 v3 v4 v5:Value):∀(j:Nat) (v:Value),(#[v0,v1,v2,v3,v4,v5]:Array Value).toList[j]?=some v->(set6 w g v0 v1 v2 v3 v4 v5).cell? ⟨g,j,none⟩=some v:=by
 intro j v hv
 match j,hv with
 |0,hv=>
   obtain⟨u,hu⟩:=h.cell 0 (by omega);obtain rfl:v0=v:=by simpa using hv
   exact(World.cell?_setCell_other _ _ _ _ (by simp)).trans ((World.cell?_setCell_other _ _ _ _ (by simp)).trans ((World.cell?_setCell_other _ _ _ _ (by simp)).trans ((World.cell?_setCell_other _ _ _ _ (by simp)).trans ((World.cell?_setCell_other _ _ _ _ (by simp)).trans (World.cell?_setCell_same _ _ _ (u:=u) (hu))))))
 |1,hv=>
   obtain⟨u,hu⟩:=h.cell 1 (by omega);obtain rfl:v1=v:=by simpa using hv
   exact(World.cell?_setCell_other _ _ _ _ (by simp)).trans ((World.cell?_setCell_other _ _ _ _ (by simp)).trans ((World.cell?_setCell_other _ _ _ _ (by simp)).trans ((World.cell?_setCell_other _ _ _ _ (by simp)).trans (World.cell?_setCell_same _ _ _ (u:=u) ((World.cell?_setCell_other _ _ _ _ (by simp)).trans (hu))))))
 |2,hv=>
   obtain⟨u,hu⟩:=h.cell 2 (by omega);obtain rfl:v2=v:=by simpa using hv
   exact(World.cell?_setCell_other _ _ _ _ (by simp)).trans ((World.cell?_setCell_other _ _ _ _ (by simp)).trans ((World.cell?_setCell_other _ _ _ _ (by simp)).trans (World.cell?_setCell_same _ _ _ (u:=u) ((World.cell?_setCell_other _ _ _ _ (by simp)).trans ((World.cell?_setCell_other _ _ _ _ (by simp)).trans (hu))))))
 |3,hv=>
   obtain⟨u,hu⟩:=h.cell 3 (by omega);obtain rfl:v3=v:=by simpa using hv
   exact(World.cell?_setCell_other _ _ _ _ (by simp)).trans ((World.cell?_setCell_other _ _ _ _ (by simp)).trans (World.cell?_setCell_same _ _ _ (u:=u) ((World.cell?_setCell_other _ _ _ _ (by simp)).trans ((World.cell?_setCell_other _ _ _ _ (by simp)).trans ((World.cell?_setCell_other _ _ _ _ (by simp)).trans (hu))))))
 |4,hv=>
   obtain⟨u,hu⟩:=h.cell 4 (by omega);obtain rfl:v4=v:=by simpa using hv
   exact(World.cell?_setCell_other _ _ _ _ (by simp)).trans (World.cell?_setCell_same _ _ _ (u:=u) ((World.cell?_setCell_other _ _ _ _ (by simp)).trans ((World.cell?_setCell_other _ _ _ _ (by simp)).trans ((World.cell?_setCell_other _ _ _ _ (by simp)).trans ((World.cell?_setCell_other _ _ _ _ (by simp)).trans (hu))))))
 |5,hv=>
   obtain⟨u,hu⟩:=h.cell 5 (by omega);obtain rfl:v5=v:=by simpa using hv
   exact World.cell?_setCell_same _ _ _ (u:=u) ((World.cell?_setCell_other _ _ _ _ (by simp)).trans ((World.cell?_setCell_other _ _ _ _ (by simp)).trans ((World.cell?_setCell_other _ _ _ _ (by simp)).trans ((World.cell?_setCell_other _ _ _ _ (by simp)).trans ((World.cell?_setCell_other _ _ _ _ (by simp)).trans (hu))))))
 |j+6,hv=>simp at hv
theorem qbx{a:World}(h:Below B a w)(hg:B<=g)(v0 v1 v2 v3 v4 v5:Value):Below B a (set6 w g v0 v1 v2 v3 v4 v5):=
 (((((h.setCell (p:=⟨g,0,none⟩) hg v0).setCell (p:=⟨g,1,none⟩) hg v1).setCell (p:=⟨g,2,none⟩) hg v2).setCell (p:=⟨g,3,none⟩) hg v3).setCell (p:=⟨g,4,none⟩) hg v4).setCell (p:=⟨g,5,none⟩) hg v5
theorem qfk{fn:Func}{R:Ending->World->Prop}{p:Tmp}{ty:TypeId}(h:fn.results=#[.cell p ty])(g:Nat)(d:TypeDesc)(hu:P.underlying ty=some d)(hd:aggD d=true)(hi:(P.info? ty).map (·.size)=some 6)
  (hp:a.tmps.getD p undef=.pointer (some ⟨g,0,none⟩)) (hs:qfn w g) (ha:a.defers=[]) (v0 v1 v2 v3 v4 v5:Value) (hR:R (.returned (.agg #[v0,v1,v2,v3,v4,v5])) (set6 w g v0 v1 v2 v3 v4 v5)):bodyPost P fn R .ret a (set6 w g v0 v1 v2 v3 v4 v5):=
 bodyPost_ret (qbk h a.tmps _ g _ d hp (qj0 hs v0 v1 v2 v3 v4 v5) hu hd hi) ha hR
theorem qrp{Q:Exit->Act->World->Prop}{c rest:Code}(l:Nat)(hf:findLabel c l=some rest)
  (first:c.wp P (Exit.jump l (fun a' w'=>rest.wp P (Exit.noGoto Q) a' w') Q) a w):(Code.scope c).wp P Q a w:=by
 refine wp_scope_jumps l (fun a' w'=>rest.wp P (Exit.noGoto Q) a' w') (fun _ _=>0) hf first ?_
 intro a' w' hJ b k cs;obtain⟨e,a₁,w₁,hq,ha⟩:=hJ b k cs;refine⟨e,a₁,w₁,?_,ha⟩;cases e with
 |goto l'=>exact hq.elim
 |normal=>exact hq
 |exit id=>exact hq
 |ret=>exact hq
 |panic ch=>exact hq
 |outgrown=>exact hq
variable{w:World}{g:Nat}
theorem qfn.set(h:qfn w g)(p:Addr)(v:Value):qfn (w.setCell p v) g:=by
 obtain⟨cs,t,h,hs⟩:=h;by_cases hg:g=p.block
 ·subst hg
  refine⟨if p.spot.isSome then cs else cs.setIfInBounds p.off v,t,?_,?_⟩
  ·simp only[World.setCell,Array.getElem?_modify,↓reduceIte,h,Option.map_some]
  ·split<;>simp[hs]
 ·exact⟨cs,t,(Below.heap_setCell w p v g hg).trans h,hs⟩
def qil(l:List Nat):List Value:=l.map fun(m:Nat)=>.int .i64 (m:Int)
theorem quw(l:List Nat):(qil l).length=l.length:=by simp[qil]
theorem qsu(l:List Nat)(m:Nat):qil (l++[m])=qil l++[.int .i64 (m:Int)]:=by simp[qil]
theorem qzj:(Tryz.prog.info? 3).map (fun i=>(i.zero,i.size,i.bytes))=some (some (.int .i64 0),1,8):=by kernel_rfl
theorem q5w(l:List Value)(x y:Value)(n k:Nat)(hl:l.length=k)(hk:k<n):(l++List.replicate (n - k) x).set k y=(l++[y])++List.replicate (n - (k+1)) x:=by
 obtain⟨j,hj⟩:∃j,n - k=j+1:=⟨n - k - 1,by omega⟩;have ha:n - (k+1)=j:=by omega
 rw[hj,ha,List.replicate_succ,List.set_append_right _ _ (by omega),hl,Nat.sub_self,List.set_cons_zero,List.append_assoc];rfl
theorem qlf{w':World}{B:Nat}{e:TypeId}{n cap:Nat}{xs:List Value}(h:w.ownsRow B e 1 (.slice (some ⟨g,0,none⟩) n cap) n xs)(hb:w'.heap[g]?=w.heap[g]?):w'.ownsRow B e 1 (.slice (some ⟨g,0,none⟩) n cap) n xs:=by
 refine⟨h.1,?_⟩;rcases h.2 with hn|⟨g',cap',cur,hv,hB,hg,rest⟩
 ·exact .inl hn
 ·simp only[Value.slice.injEq,Option.some.injEq,Addr.mk.injEq,and_true,true_and]at hv
  obtain⟨rfl,rfl⟩:=hv;exact .inr ⟨g,cap,cur,rfl,hB,hb.trans hg,rest⟩
theorem q0m(h:qfn w g)(v0 v1 v2 v3 v4 v5:Value):qfn (set6 w g v0 v1 v2 v3 v4 v5) g:=(((((h.set _ _).set _ _).set _ _).set _ _).set _ _).set _ _
variable{n g B:Nat}{w a:World}{P:Program}{fn:Func}{p:Tmp}
def qdg(n:Nat)(w:World)(g:Nat):Prop:=∃cs t,w.heap[g]?=some (.cells cs t (0,0))/\cs.size=n
theorem qdg.lt(h:qdg n w g):g<w.heap.size:=by
 obtain⟨cs,t,h,_⟩:=h;exact(Array.getElem?_eq_some_iff.1 h).1
theorem qdg.kept{w':World}(h:qdg n w g)(hb:Below B w w')(hB:g<B):qdg n w' g:=by
 obtain⟨cs,t,h,hs⟩:=h;exact⟨cs,t,(hb.block g hB).trans h,hs⟩
theorem qdg.alloc(h:qdg n w g)(o:Obj):qdg n (w.alloc o) g:=h.kept ((Below.refl _ w).alloc (Nat.le_refl _) o) h.lt
theorem qdg.drew(h:qdg n w g):qdg n w.drew g:=h
theorem q22(n:Nat)(w:World)(g:Nat)(cs:Array Value)(t:TypeId)(hg:w.heap.size=g)(hs:cs.size=n):qdg n (w.alloc (.cells cs t)) g:=by
 subst hg;exact⟨cs,t,heap_alloc_new w _,hs⟩
theorem qdg.cell(h:qdg n w g)(j:Nat)(hj:j<n):∃v,w.cell? ⟨g,j,none⟩=some v:=by
 obtain⟨cs,t,h,hs⟩:=h;exact⟨cs[j],by rw[cell_of_row w g j cs t _ h,Array.getElem?_eq_getElem (by omega)]⟩
theorem qdg.thaw(h:qdg n w g)(j:Nat):w.frozen? ⟨g,j,none⟩=false:=by
 obtain⟨cs,t,h,hs⟩:=h;simp[World.frozen?,h]
theorem qdg.set(h:qdg n w g)(p:Addr)(v:Value):qdg n (w.setCell p v) g:=by
 obtain⟨cs,t,h,hs⟩:=h;by_cases hg:g=p.block
 ·subst hg
  refine⟨if p.spot.isSome then cs else cs.setIfInBounds p.off v,t,?_,?_⟩
  ·simp only[World.setCell,Array.getElem?_modify,↓reduceIte,h,Option.map_some]
  ·split<;>simp[hs]
 ·exact⟨cs,t,(Below.heap_setCell w p v g hg).trans h,hs⟩
theorem qdg.cellA(h:qdg n w g)(j:Nat)(hj:j<n):∃v,∀o,(w.alloc o).cell? ⟨g,j,none⟩=some v:=by
 obtain⟨v,hv⟩:=h.cell j hj;exact⟨v,fun o=>((Below.refl w.heap.size w).alloc (Nat.le_refl _) o).cell (p:=⟨g,j,none⟩) h.lt |>.trans hv⟩
theorem qdg.thawA(h:qdg n w g)(j:Nat)(o:Obj):(w.alloc o).frozen? ⟨g,j,none⟩=false:=(h.alloc o).thaw j
theorem qal(w:World)(o:Obj)(g:Nat)(h:w.heap.size=g):(w.alloc o).heap[g]?=some o:=by rw[<-h];exact heap_alloc_new w o
theorem q9r(w:World)(a b:Obj):((w.alloc a).alloc b).heap[w.heap.size+1]?=some b:=qal _ _ _ (by simp)
def qgb(w:World)(g:Nat):Nat->List Value->World
 |_,[]=>w
 |k,v::l=>qgb (w.setCell ⟨g,k,none⟩ v) g (k+1) l
theorem qsb(g:Nat)(l:List Value):∀(w:World) (k:Nat) (p:Addr),(∀j,k<=j->j<k+l.length->p≠⟨g,j,none⟩)->(qgb w g k l).cell? p=w.cell? p:=by
 induction l with
 |nil=>intro w k p _;rfl
 |cons v l ih=>
   intro w k p h;show(qgb (w.setCell ⟨g,k,none⟩ v) g (k+1) l).cell? p=_;rw[ih _ _ _ (fun j h1 h2=>h j (by omega) (by simp only[List.length_cons];omega))];exact World.cell?_setCell_other _ _ _ _ (Ne.symm (h k (Nat.le_refl _) (by simp)))
theorem qi1(g:Nat)(l:List Value):∀(w:World) (k:Nat),qdg n w g->k+l.length<=n->∀(j:Nat) (v:Value),l[j]?=some v->(qgb w g k l).cell? ⟨g,k+j,none⟩=some v:=by
 induction l with
 |nil=>intro w k _ _ j v hv;simp at hv
 |cons x l ih=>
   intro w k hs hk j v hv;simp only[List.length_cons]at hk;show(qgb (w.setCell ⟨g,k,none⟩ x) g (k+1) l).cell? _=_
   match j,hv with
   |0,hv=>
     obtain rfl:x=v:=by simpa using hv
     rw[qsb _ _ _ _ _ (fun j h1 h2 q=>by simp only[Addr.mk.injEq]at q;omega)];obtain⟨u,hu⟩:=hs.cell k (by omega);exact World.cell?_setCell_same _ _ _ (u:=u) hu
   |j+1,hv=>
     have:=ih (w.setCell ⟨g,k,none⟩ x) (k+1) (hs.set _ _) (by omega) j v (by simpa using hv);rw[show k+(j+1)=k+1+j by omega];exact this
theorem qt2(g g':Nat)(l:List Value):∀(w:World) (k:Nat),qdg n w g'->qdg n (qgb w g k l) g':=by
 induction l with
 |nil=>intro w k h;exact h
 |cons x l ih=>intro w k h;exact ih _ _ (h.set _ _)
theorem qiq(g:Nat)(hg:B<=g)(l:List Value):∀(w:World) (k:Nat),Below B a w->Below B a (qgb w g k l):=by
 induction l with
 |nil=>intro w k h;exact h
 |cons x l ih=>intro w k h;exact ih _ _ (h.setCell (p:=⟨g,k,none⟩) hg _)
def set5(w:World)(g:Nat)(v0 v1 v2 v3 v4:Value):World:=((((w.setCell ⟨g,0,none⟩ v0).setCell ⟨g,1,none⟩ v1).setCell ⟨g,2,none⟩ v2).setCell ⟨g,3,none⟩ v3).setCell ⟨g,4,none⟩ v4
theorem q3b(w:World)(g:Nat)(v0 v1 v2 v3 v4:Value):set5 w g v0 v1 v2 v3 v4=qgb w g 0 [v0,v1,v2,v3,v4]:=rfl
theorem q1t(h:qdg 5 w g)(v0 v1 v2 v3 v4:Value):∀(j:Nat) (v:Value),(#[v0,v1,v2,v3,v4]:Array Value).toList[j]?=some v->(set5 w g v0 v1 v2 v3 v4).cell? ⟨g,j,none⟩=some v:=by
 intro j v hv;have:=qi1 (n:=5) g [v0,v1,v2,v3,v4] w 0 h (by simp) j v hv;rw[Nat.zero_add]at this;rw[q3b];exact this
theorem qmp(h:Below B a w)(hg:B<=g)(v0 v1 v2 v3 v4:Value):Below B a (set5 w g v0 v1 v2 v3 v4):=by
 rw[q3b];exact qiq g hg _ _ _ h
theorem qip{R:Ending->World->Prop}{a:Act}{ty:TypeId}(h:fn.results=#[.cell p ty])(g:Nat)(d:TypeDesc)(hu:P.underlying ty=some d)(hd:aggD d=true)(hi:(P.info? ty).map (·.size)=some 5)
  (hp:a.tmps.getD p undef=.pointer (some ⟨g,0,none⟩)) (hs:qdg 5 w g) (ha:a.defers=[]) (v0 v1 v2 v3 v4:Value) (hR:R (.returned (.agg #[v0,v1,v2,v3,v4])) (set5 w g v0 v1 v2 v3 v4)):bodyPost P fn R .ret a (set5 w g v0 v1 v2 v3 v4):=
 bodyPost_ret (qbk h a.tmps _ g _ d hp (q1t hs v0 v1 v2 v3 v4) hu hd hi) ha hR
def qcs(w:World)(g:Nat)(v0 v1 v2 v3 v4 v5 v6 v7 v8 v9:Value):World:=(((((((((w.setCell ⟨g,0,none⟩ v0).setCell ⟨g,1,none⟩ v1).setCell ⟨g,2,none⟩ v2).setCell ⟨g,3,none⟩ v3).setCell ⟨g,4,none⟩ v4).setCell ⟨g,5,none⟩ v5).setCell ⟨g,6,none⟩ v6).setCell ⟨g,7,none⟩ v7).setCell ⟨g,8,none⟩ v8).setCell ⟨g,9,none⟩ v9
theorem qnt(w:World)(g:Nat)(v0 v1 v2 v3 v4 v5 v6 v7 v8 v9:Value):qcs w g v0 v1 v2 v3 v4 v5 v6 v7 v8 v9=qgb w g 0 [v0,v1,v2,v3,v4,v5,v6,v7,v8,v9]:=rfl
theorem qcz(h:qdg 10 w g)(v0 v1 v2 v3 v4 v5 v6 v7 v8 v9:Value):∀(j:Nat) (v:Value),(#[v0,v1,v2,v3,v4,v5,v6,v7,v8,v9]:Array Value).toList[j]?=some v->(qcs w g v0 v1 v2 v3 v4 v5 v6 v7 v8 v9).cell? ⟨g,j,none⟩=some v:=by
 intro j v hv;have:=qi1 (n:=10) g [v0,v1,v2,v3,v4,v5,v6,v7,v8,v9] w 0 h (by simp) j v hv;rw[Nat.zero_add]at this;rw[qnt];exact this
theorem qei(h:Below B a w)(hg:B<=g)(v0 v1 v2 v3 v4 v5 v6 v7 v8 v9:Value):Below B a (qcs w g v0 v1 v2 v3 v4 v5 v6 v7 v8 v9):=by
 rw[qnt];exact qiq g hg _ _ _ h
theorem qj8{R:Ending->World->Prop}{a:Act}{ty:TypeId}(h:fn.results=#[.cell p ty])(g:Nat)(d:TypeDesc)(hu:P.underlying ty=some d)(hd:aggD d=true)(hi:(P.info? ty).map (·.size)=some 10)
  (hp:a.tmps.getD p undef=.pointer (some ⟨g,0,none⟩)) (hs:qdg 10 w g) (ha:a.defers=[]) (v0 v1 v2 v3 v4 v5 v6 v7 v8 v9:Value) (hR:R (.returned (.agg #[v0,v1,v2,v3,v4,v5,v6,v7,v8,v9])) (qcs w g v0 v1 v2 v3 v4 v5 v6 v7 v8 v9)):bodyPost P fn R .ret a (qcs w g v0 v1 v2 v3 v4 v5 v6 v7 v8 v9):=
 bodyPost_ret (qbk h a.tmps _ g _ d hp (qcz hs v0 v1 v2 v3 v4 v5 v6 v7 v8 v9) hu hd hi) ha hR
def setM(w:World)(g:Nat)(v0 v1 v2 v3 v4:Value):World:=((((w.setCell ⟨g,5,none⟩ v0).setCell ⟨g,6,none⟩ v1).setCell ⟨g,7,none⟩ v2).setCell ⟨g,8,none⟩ v3).setCell ⟨g,9,none⟩ v4
variable{w w0:World}{g:Nat}{s:Pl.Sx}
theorem SxAt.alloc(h:SxAt w g s)(hg:g<w.heap.size)(o:Obj):SxAt (w.alloc o) g s:=h.kept ((Below.refl _ w).alloc (Nat.le_refl _) o) hg
theorem SxAt.setFar(h:SxAt w g s)(r:Int):SxAt (w.setCell ⟨g,9,none⟩ (.int .i64 r)) g ⟨⟨s.st.mode,s.st.name,s.st.elem,s.st.kind,s.st.read,s.st.esc⟩,⟨s.ma.ref,s.ma.hex,s.ma.pct,r⟩⟩:=
 ⟨(World.cell?_setCell_other _ _ _ _ (by simp)).trans h.mode,(World.cell?_setCell_other _ _ _ _ (by simp)).trans h.name,(World.cell?_setCell_other _ _ _ _ (by simp)).trans h.elem,(World.cell?_setCell_other _ _ _ _ (by simp)).trans h.kind,(World.cell?_setCell_other _ _ _ _ (by simp)).trans h.read,(World.cell?_setCell_other _ _ _ _ (by simp)).trans h.ref,(World.cell?_setCell_other _ _ _ _ (by simp)).trans h.esc,(World.cell?_setCell_other _ _ _ _ (by simp)).trans h.hex,(World.cell?_setCell_other _ _ _ _ (by simp)).trans h.pct,World.cell?_setCell_same _ _ _ h.far⟩
structure Mid(w0 w:World)(g:Nat)(s:Pl.Sx):Prop where
 eq:w0.heap.size=g
 tabs0:PTabs w0
 below:Below w0.heap.size w0 w
 at':SxAt w g s
 slot:qdg 10 w g
 res:qdg 10 w (g+1)
theorem Mid.tabs(h:Mid w0 w g s):PTabs w:=h.tabs0.kept h.below
theorem Mid.kept{w':World}(h:Mid w0 w g s)(hb:Below w.heap.size w w'):Mid w0 w' g s:=
 ⟨h.eq,h.tabs0,h.below.trans (hb.mono h.below.size),h.at'.kept hb h.slot.lt,h.slot.kept hb h.slot.lt,h.res.kept hb h.res.lt⟩
theorem Mid.alloc(h:Mid w0 w g s)(o:Obj):Mid w0 (w.alloc o) g s:=h.kept ((Below.refl _ w).alloc (Nat.le_refl _) o)
theorem Mid.drew(h:Mid w0 w g s):Mid w0 w.drew g s:=h.kept (Below.refl _ w).drew
theorem Mid.setFar(h:Mid w0 w g s)(r:Int):Mid w0 (w.setCell ⟨g,9,none⟩ (.int .i64 r)) g ⟨⟨s.st.mode,s.st.name,s.st.elem,s.st.kind,s.st.read,s.st.esc⟩,⟨s.ma.ref,s.ma.hex,s.ma.pct,r⟩⟩:=
 ⟨h.eq,h.tabs0,h.below.setCell (p:=⟨g,9,none⟩) (Nat.le_of_eq h.eq) _,h.at'.setFar r,h.slot.set _ _,h.res.set _ _⟩
theorem qu0(b:UInt8)(w:World)(h:Pl.among b Pl.hexB=true) :
  Calls Tryz.prog 130 #[.string ⟨#[48,49,50,51,52,53,54,55,56,57,97,98,99,100,101,102,65,66,67,68,69,70]⟩,.int .u8 b.toNat] w fun e w'=>∃x:Int,0<=x/\e=.returned (.int .i64 x)/\w=w':=
 qb3 b _ Pl.hexB w rfl h
theorem qxr(b:UInt8)(w:World)(h:Pl.among b Pl.hexB=false) :
  Calls Tryz.prog 130 #[.string ⟨#[48,49,50,51,52,53,54,55,56,57,97,98,99,100,101,102,65,66,67,68,69,70]⟩,.int .u8 b.toNat] w fun e w'=>e=.returned (.int .i64 (-1))/\w=w':=
 qce b _ Pl.hexB w rfl h
theorem qu6(left:Int)(b:UInt8)(w:World)(h0:-1000<=left)(h1:left<=1000) :
  Calls Tryz.prog 182 #[.int .i64 left,.int .u8 b.toNat] w fun e w'=>e=.returned (.int .i64 (Pl.qdt left b))/\w=w':=by
 by_cases hl:0<left
 ·by_cases hb:Pl.among b Pl.hexB=true
  ·have HV:Hid (Pl.qdt left b=left - 1):=by show _=_;unfold Pl.qdt;rw[if_pos ⟨hl,hb⟩]
   have hw:IntKind.i64.wrap (left - 1)=left - 1:=by rw[IntKind.wrap_i64];omega
   go_enter Tryz.func182,Tryz.ntmps182
   go_wp2_with (go_at_call 130;refine(qu0 b _ hb).mono ?_;rintro e w' ⟨x,hx,rfl,rfl⟩)
   go_ret
   exact⟨qan (by rw[HV.out]),rfl⟩
  ·have hb:=Bool.eq_false_iff.2 hb
   have HV:Hid (Pl.qdt left b=0):=by show _=_;unfold Pl.qdt;rw[if_neg (fun q=>by rw[hb]at q;exact absurd q.2 (by simp))]
   go_enter Tryz.func182,Tryz.ntmps182
   go_wp2_with (go_at_call 130;refine(qxr b _ hb).mono ?_;rintro e w' ⟨rfl,rfl⟩)
   go_ret
   exact⟨qan (by rw[HV.out]),rfl⟩
 ·have HV:Hid (Pl.qdt left b=0):=by show _=_;unfold Pl.qdt;rw[if_neg (fun q=>hl q.1)]
  have ha:decide (0<left)=false:=by rw[decide_eq_false_iff_not];exact hl
  go_enter Tryz.func182,Tryz.ntmps182
  go_wp2_with fail
  go_ret
  exact⟨qan (by rw[HV.out]),rfl⟩
theorem q37(b:UInt8)(w:World) :
  Calls Tryz.prog 183 #[.int .u8 b.toNat] w fun e w'=>e=.returned (.bool (Pl.quy b))/\w=w':=by
 unfold Pl.quy;by_cases h1:Pl.qc2 b=true
 ·rw[h1,Bool.true_or]
  go_enter Tryz.func183,Tryz.ntmps183
  go_wp2_with (go_at_call 132;refine(qfw b _).mono ?_;rintro e w' ⟨rfl,rfl⟩;rw[h1])
  go_ret
  exact⟨rfl,rfl⟩
 ·have h1:=Bool.eq_false_iff.2 h1
  rw[h1,Bool.false_or];by_cases h2:Pl.qjb b=true
  ·rw[h2,Bool.true_or]
   go_enter Tryz.func183,Tryz.ntmps183
   go_wp2_with (first|(go_at_call 132;refine(qfw b _).mono ?_;rintro e w' ⟨rfl,rfl⟩;rw[h1])|(go_at_call 102;refine(qg5 b _).mono ?_;rintro e w' ⟨rfl,rfl⟩;rw[h2]))
   go_ret
   exact⟨rfl,rfl⟩
  ·have h2:=Bool.eq_false_iff.2 h2
   rw[h2,Bool.false_or];have h3:((b.toNat:Int)==35)=(b==35):=Pl.qh5 b 35 (by omega);go_enter Tryz.func183,Tryz.ntmps183
   go_wp2_with (first|(go_at_call 132;refine(qfw b _).mono ?_;rintro e w' ⟨rfl,rfl⟩;rw[h1])|(go_at_call 102;refine(qg5 b _).mono ?_;rintro e w' ⟨rfl,rfl⟩;rw[h2]))
   go_ret
   exact⟨rfl,rfl⟩
theorem qdy(m:Nat)(w:World) :
  Calls Tryz.prog 154 #[.int .u8 m] w fun e w'=>e=.returned (.int .i64 (Pl.qat m))/\w=w':=by
 by_cases hh:m=1\/m=19\/m=8\/m=9\/m=21\/m=22\/m=29\/m=30
 ·rcases hh with rfl|rfl|rfl|rfl|rfl|rfl|rfl|rfl
  all_goals
   go_enter Tryz.func154,Tryz.ntmps154
   go_wp2
   go_ret
   exact⟨rfl,rfl⟩
 ·have HV:Hid (Pl.qat m=0):=by show _=_;unfold Pl.qat;rw[if_neg (by omega),if_neg (by omega),if_neg (by omega)]
  have q1:((m:Int)==1)=false:=by rw[beq_eq_false_iff_ne];omega
  have q2:((m:Int)==19)=false:=by rw[beq_eq_false_iff_ne];omega
  have q3:((m:Int)==8)=false:=by rw[beq_eq_false_iff_ne];omega
  have q4:((m:Int)==9)=false:=by rw[beq_eq_false_iff_ne];omega
  have q5:((m:Int)==21)=false:=by rw[beq_eq_false_iff_ne];omega
  have q6:((m:Int)==22)=false:=by rw[beq_eq_false_iff_ne];omega
  have q7:((m:Int)==29)=false:=by rw[beq_eq_false_iff_ne];omega
  have q8:((m:Int)==30)=false:=by rw[beq_eq_false_iff_ne];omega
  clear hh;go_enter Tryz.func154,Tryz.ntmps154
  go_wp2
  go_ret
  exact⟨qan (by rw[HV.out]),rfl⟩
theorem beqN(a b:Nat):((a:Int)==(b:Int))=(a==b):=by rw[Bool.eq_iff_iff];simp only[beq_iff_eq,Int.natCast_inj]
theorem qdr(x:Pl.Sx)(w:World) :
  Calls Tryz.prog 153 #[qap x] w fun e w'=>e=.returned (.bool (Pl.qba x.st.kind x.st.mode))/\w.alloc (.cells (qaf x) 162)=w':=by
 unfold Pl.qba qap qaf bs;by_cases h1:(x.st.kind==1)=true
 ·rw[h1,Bool.true_and]
  by_cases h2:x.st.mode=8
  ·have ha:((x.st.mode:Int)==8)=true:=by rw[h2];rfl
   have HV:Hid ((x.st.mode==8 || x.st.mode==9)=true):=by show _=_;rw[h2];rfl
   rw[HV.out];clear h2;go_enter Tryz.func153,Tryz.ntmps153
   go_wp2_with fail
   go_ret
   exact⟨rfl,rfl⟩
  ·have ha:((x.st.mode:Int)==8)=false:=by rw[beq_eq_false_iff_ne];omega
   have HV:Hid ((x.st.mode==8 || x.st.mode==9)=((x.st.mode:Int)==9)):=by
    show _=_;rw[show((9:Int))=((9:Nat):Int)from rfl,beqN,beq_eq_false_iff_ne.2 h2,Bool.false_or]
   rw[HV.out];clear h2;go_enter Tryz.func153,Tryz.ntmps153
   go_wp2_with fail
   go_ret
   exact⟨rfl,rfl⟩
 ·have h1:=Bool.eq_false_iff.2 h1
  rw[h1,Bool.false_and];go_enter Tryz.func153,Tryz.ntmps153
  go_wp2_with fail
  go_ret
  exact⟨rfl,rfl⟩
theorem qsi(x:Pl.Sx)(w:World) :
  Calls Tryz.prog 111 #[qap x] w fun e w'=>e=.returned (.bool (x.st.mode==0))/\w.alloc (.cells (qaf x) 162)=w':=by
 unfold qap qaf bs;by_cases h:x.st.mode=0
 ·have hb:(x.st.mode==0)=true:=beq_iff_eq.2 h
  rw[hb,h];clear hb;go_enter Tryz.func111,Tryz.ntmps111
  go_wp2
  go_ret
  exact⟨rfl,rfl⟩
 ·have hb:(x.st.mode==0)=false:=beq_eq_false_iff_ne.2 h
  have hi:((x.st.mode:Int)==0)=false:=by rw[beq_eq_false_iff_ne];omega
  rw[hb];clear hb;go_enter Tryz.func111,Tryz.ntmps111
  go_wp2
  go_ret
  exact⟨rfl,rfl⟩
theorem qfy(x:Pl.Sx)(w:World) :
  Calls Tryz.prog 155 #[qap x] w fun e w'=>e=.returned (.bool x.halfway)/\w.alloc (.cells (qaf x) 162)=w':=by
 have HV:Hid (x.halfway=(x.ma.ref || (x.st.esc || (decide (0<x.ma.hex) || (decide (0<x.ma.pct) || decide ((0:Int)<(x.st.read:Int))))))):=by
  show _=_;unfold Pl.Sx.halfway
  congr 4
  exact decide_eq_decide.2 (by omega)
 rw[HV.out];clear HV;unfold qap qaf bs;generalize x.ma.ref=r;generalize x.st.esc=z;generalize x.ma.hex=h;generalize x.ma.pct=p;generalize (x.st.read:Int)=d;cases r with
 |true=>
   go_enter Tryz.func155,Tryz.ntmps155
   go_wp2
   go_ret
   exact⟨rfl,rfl⟩
 |false=>
   cases z with
   |true=>
     go_enter Tryz.func155,Tryz.ntmps155
     go_wp2
     go_ret
     exact⟨rfl,rfl⟩
   |false=>
     by_cases c1:0<h
     ·rw[decide_eq_true c1]
      go_enter Tryz.func155,Tryz.ntmps155
      go_wp2
      go_ret
      exact⟨rfl,rfl⟩
     ·rw[decide_eq_false c1]
      have c1:h<=0:=by omega
      by_cases c2:0<p
      ·rw[decide_eq_true c2]
       go_enter Tryz.func155,Tryz.ntmps155
       go_wp2
       go_ret
       exact⟨rfl,rfl⟩
      ·rw[decide_eq_false c2]
       have c2:p<=0:=by omega
       by_cases c3:0<d
       ·rw[decide_eq_true c3]
        go_enter Tryz.func155,Tryz.ntmps155
        go_wp2
        go_ret
        exact⟨rfl,rfl⟩
       ·rw[decide_eq_false c3]
        have c3:d<=0:=by omega
        go_enter Tryz.func155,Tryz.ntmps155
        go_wp2
        go_ret
        exact⟨rfl,rfl⟩
end Go.Proofs.YtfkhljmiehdgmaaGreatDoor
