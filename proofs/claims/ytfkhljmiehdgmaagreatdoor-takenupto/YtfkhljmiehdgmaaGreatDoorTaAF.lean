/-
  Steps of the proof (texts laid together, blanks left out): EdA, EdB, EdD, EdE, EdG, EdH, TkA, ReR, ReA.
-/
import Derived.Test.YtfkhljmiehdgmaaGreatDoorTaAE
import Derived.OrdersHeld
import Derived.OrdersIn
import Derived.TacticsIn
import Derived.RangeFuncCalls
import Derived.Lib.ItoaNum
import Derived.Lib.Small
import Derived.Lib.IndexMore
import Derived.Test.YtfkhljmiehdgmaaGreatDoorTaAD
namespace Go.Proofs.YtfkhljmiehdgmaaGreatDoor.Pl
def qbo (x:Sx) (B:List Sx) (p:Pt):Option (Sx×List Sx):=
 if p.kind=1 then(match qa2 x p.text with
  | some _=>Option.none
  | Option.none=>some (qau x p.text,B))
 else if p.kind=2 then(if x.hole.2=0 then some (x.behindHole,B) else Option.none)
 else if p.kind=3∨p.kind=4 then some (x,B++[x])
 else if p.kind=5 then(match B.getLast? with
  | Option.none=>Option.none
  | some b=>if x=b then some (x,B.dropLast) else Option.none)
 else some (x,B)
def qbr:List Pt→Sx→List Sx→Option (Sx×List Sx)
 | [],x,B=>some (x,B)
 | p::l,x,B=>(qbo x B p).bind fun y=>qbr l y.1 y.2
theorem qcv (l m:List Pt):∀(x:Sx) (B:List Sx),qbr (l++m) x B=(qbr l x B).bind fun y=>qbr m y.1 y.2:=by
 induction l with
 | nil=>intro x B; rfl
 | cons p l ih=>
   intro x B
   show (qbo x B p).bind _=((qbo x B p).bind _).bind _
   cases qbo x B p with
   | none=>rfl
   | some y=>exact ih y.1 y.2
def deep:List Pt→Nat→Bool
 | [],_=>true
 | p::l,d=>if p.kind=3∨p.kind=4 then deep l (d+1) else if p.kind=5 then decide (d≠0) && deep l (d - 1) else deep l d
theorem q13 {o:Nat} {l:List Pt} (h:Wf o l):∀(m:List Pt) (d:Nat),deep m d=true→deep (l++m) d=true:=by
 induction h with
 | nil o=>intro m d h; exact h
 | leaf o p l hk _ ih=>
   intro m d h
   show deep (p::(l++m)) d=true
   unfold deep
   rw[if_neg (by omega),if_neg (by omega)]
   exact ih m d h
 | sec o p q b l hp hq h1 h2 hb _ ihb ihl=>
   intro m d h
   have e:p::b++q::l++m=p::(b++(q::(l++m))):=by simp
   rw[e]
   unfold deep
   rw[if_pos hp]
   refine ihb _ _ ?_
   unfold deep
   rw[if_neg (by omega),if_pos hq]
   simp only[ne_eq,Nat.add_eq_zero_iff,Nat.succ_ne_self,and_false,not_false_eq_true,decide_true,Bool.true_and,Nat.add_sub_cancel]
   exact ihl m d h
theorem qqc {o:Nat} {l:List Pt} (h:Wf o l):∀ p∈l,1≤p.kind∧p.kind≤6:=by
 induction h with
 | nil o=>intro p hp; cases hp
 | leaf o p l hk _ ih=>
   intro q hq
   rcases List.mem_cons.1 hq with rfl | hq
   ·omega
   ·exact ih q hq
 | sec o p q b l hp hq h1 h2 hb _ ihb ihl=>
   intro r hr
   simp only[List.cons_append,List.mem_cons,List.mem_append]at hr
   rcases hr with rfl | hr | rfl | hr
   ·omega
   ·exact ihb r hr
   ·omega
   ·exact ihl r hr
theorem qvb {x:Sx} {l:List UInt8} {j:Nat} (h:qa2 x l=some j):j<l.length:=by
 induction l generalizing x j with
 | nil=>cases h
 | cons b l ih=>
   unfold qa2 at h
   split at h
   ·injection h with h; subst h; simp
   ·obtain⟨k,h1,rfl⟩:=Option.map_eq_some_iff.1 h
    have:=ih h1
    simp; omega
structure Marks (s s':Sr):Prop where
 ends:s'.ends=s.ends
 nums:s'.nums=s.nums
 vis:s'.vis.length=s.vis.length
theorem Marks.refl (s:Sr):Marks s s:=⟨rfl,rfl,rfl⟩
theorem Marks.mark {s s':Sr} (h:Marks s s') (v a:Nat) (m:Int):Marks s (s'.mark v a m):=⟨h.ends,h.nums,by unfold Sr.mark; simp[h.vis]⟩
theorem qyq (s:Sr) (v a:Nat) (m:Int):(s.mark v a m).fault=s.fault:=rfl
theorem qki {x:Sx} (h:SxOk x):x.isNone=false:=by
 have:=h.st.lo
 unfold Sx.isNone
 rw[beq_eq_false_iff_ne]; omega
theorem qo8 {x:Sx} {B:List Sx} {p:Pt} {y:Sx×List Sx} (h:SxOk x) (hs:qbo x B p=some y):SxOk y.1:=by
 unfold qbo at hs
 split at hs
 ·split at hs
  ·cases hs
  ·injection hs with hs; subst hs; exact qr7 _ _ h
 ·split at hs
  ·split at hs
   ·injection hs with hs; subst hs; exact qh4 _ h
   ·cases hs
  ·split at hs
   ·injection hs with hs; subst hs; exact h
   ·split at hs
    ·split at hs
     ·cases hs
     ·split at hs
      ·injection hs with hs; subst hs; exact h
      ·cases hs
    ·injection hs with hs; subst hs; exact h
theorem qip {α:Type} {P:List α} {a:Nat} {p:α} (h:P[a]?=some p):P.drop a=p::P.drop (a+1):=by
 obtain⟨h1,h2⟩:=List.getElem?_eq_some_iff.1 h
 rw[List.drop_eq_getElem_cons h1,h2]
theorem qyb (P:List Pt) (m:Nat) (hP:P≠[]):∃ p∈P,qox P m=p.pos∨qox P m=0:=by
 unfold qox
 cases h:P[m]? with
 | none=>
   cases P with
   | nil=>exact absurd rfl hP
   | cons p l=>exact⟨p,by simp,.inr rfl⟩
 | some p=>exact⟨p,List.mem_of_getElem? h,.inl rfl⟩
def q2q (S:List Src) (i:Nat) (P:List Pt) (s0:Sr) (r:Option (Sx×List Sx)) (s:Sr):Prop:=
 match r with
 | some _=>s.fault=s0.fault∧Marks s0 s
 | Option.none=>s.fault.code=3∧s.fault.place=qlm S i∧(s.fault.pos=0∨∃ p∈P,s.fault.pos=p.pos∨(p.kind=1∧s.fault.pos<p.pos+p.text.length))
theorem q4b (nm:Sr→List UInt8→Sx→Sr×Nat×Sx) (S:List Src) (i v:Nat) (P:List Pt) (hk:∀ p∈P,1≤p.kind∧p.kind≤6) (hnm:∀ p∈P,p.kind=6→∀ s x,nm s p.text x=(s,0,x)) (s0:Sr) (h0:s0.fault.code=0) :
  ∀(n a:Nat) (s:Sr) (x:Sx) (B:List (Sx×Nat)),P.length - a<n→deep (P.drop a) B.length=true→s.fault=s0.fault→Marks s0 s→SxOk x →
  q2q S i P s0 (qbr (P.drop a) x (B.map (·.1))) (goV nm S i v P n a s x B):=by
 intro n
 induction n with
 | zero=>intro a s x B h; omega
 | succ n ih=>
   intro a s x B hn hd hf hm hx
   unfold goV
   cases hp:P[a]? with
   | none=>
     have:P.length≤a:=by simpa using hp
     rw[List.drop_eq_nil_of_le this]
     exact⟨hf,hm⟩
   | some p=>
     have hlt:a<P.length:=(List.getElem?_eq_some_iff.1 hp).1
     have hmem:p∈P:=List.mem_of_getElem? hp
     have hkp:=hk p hmem
     rw[qip hp]at hd ⊢
     show q2q S i P s0 ((qbo x (B.map (·.1)) p).bind fun y=>qbr (P.drop (a+1)) y.1 y.2) _
     unfold deep at hd
     unfold qbo
     simp only
     by_cases k1:p.kind=1
     ·rw[if_pos k1,if_pos k1]
      rw[if_neg (by omega),if_neg (by omega)]at hd
      cases hs:qa2 x p.text with
      | some j=>
        exact⟨rfl,rfl,.inr ⟨p,hmem,.inr ⟨k1,by have:=qvb hs; show p.pos+j<_; omega⟩⟩⟩
      | none=>exact ih (a+1) s _ B (by omega) hd hf hm (qr7 _ _ hx)
     rw[if_neg k1,if_neg k1]
     by_cases k2:p.kind=2
     ·rw[if_pos k2,if_pos k2]
      rw[if_neg (by omega),if_neg (by omega)]at hd
      by_cases hh:x.hole.2=0
      ·rw[if_pos hh,if_neg (fun q=>q hh)]
       exact ih (a+1) _ _ B (by omega) hd hf (hm.mark _ _ _) (qh4 _ hx)
      ·rw[if_neg hh,if_pos hh]
       exact⟨rfl,rfl,.inr ⟨p,hmem,.inl rfl⟩⟩
     rw[if_neg k2,if_neg k2]
     by_cases k3:p.kind=3∨p.kind=4
     ·rw[if_pos k3,if_pos k3]
      rw[if_pos k3]at hd
      have:=ih (a+1) s x (B++[(x,p.mate)]) (by omega) (by simpa using hd) hf hm hx
      rw[List.map_append]at this
      exact this
     rw[if_neg k3,if_neg k3]
     rw[if_neg k3]at hd
     by_cases k5:p.kind=5
     ·rw[if_pos k5,if_pos k5]
      rw[if_pos k5]at hd
      simp only[ne_eq,Bool.and_eq_true,decide_eq_true_eq]at hd
      cases hB:B.getLast? with
      | none=>
        rw[List.getLast?_eq_none_iff]at hB
        subst hB
        exact absurd rfl hd.1
      | some b=>
        have hB2:(B.map (·.1)).getLast?=some b.1:=by rw[List.getLast?_map,hB]; rfl
        simp only[hB2]
        by_cases hb:x=b.1
        ·rw[if_pos hb,if_neg (fun q=>q hb)]
         have:=ih (a+1) s x B.dropLast (by omega) (by simpa using hd.2) hf hm hx
         rw[List.map_dropLast]at this
         exact this
        ·rw[if_neg hb,if_pos hb]
         refine⟨rfl,rfl,?_⟩
         obtain⟨q,hq,h | h⟩:=qyb P p.mate (fun e=>by rw[e]at hmem; cases hmem)
         ·exact .inr ⟨q,hq,.inl h⟩
         ·exact .inl h
     rw[if_neg k5,if_neg k5]
     have k6:p.kind=6:=by omega
     rw[if_pos k6,hnm p hmem k6]
     rw[if_neg k5]at hd
     simp only[qki hx]
     rw[if_neg (by rw[qyq,hf,h0]; simp),if_pos trivial]
     exact ih (a+1) _ x B (by omega) hd hf (hm.mark _ _ _) hx
theorem q1u {o:Nat} {l:List Pt} (h:Wf o l):∀(x:Sx) (B:List Sx) (y:Sx×List Sx),qbr l x B=some y→y.2=B:=by
 induction h with
 | nil o=>intro x B y h; injection h with h; subst h; rfl
 | leaf o p l hk _ ih=>
   intro x B y h
   obtain⟨z,h1,h2⟩:=Option.bind_eq_some_iff.1 h
   rw[ih _ _ _ h2]
   unfold qbo at h1
   split at h1
   ·split at h1
    ·cases h1
    ·injection h1 with h1; subst h1; rfl
   ·split at h1
    ·split at h1
     ·injection h1 with h1; subst h1; rfl
     ·cases h1
    ·rw[if_neg (by omega),if_neg (by omega)]at h1
     injection h1 with h1; subst h1; rfl
 | sec o p q b l hp hq h1 h2 hb _ ihb ihl=>
   intro x B y h
   have e:p::b++q::l=p::(b++(q::l)):=by simp
   rw[e]at h
   obtain⟨z,g1,g2⟩:=Option.bind_eq_some_iff.1 h
   unfold qbo at g1
   rw[if_neg (by omega),if_neg (by omega),if_pos hp]at g1
   injection g1 with g1; subst g1
   rw[qcv]at g2
   obtain⟨u,g3,g4⟩:=Option.bind_eq_some_iff.1 g2
   have hu:=ihb _ _ _ g3
   obtain⟨u1,u2⟩:=u
   simp only at hu g4
   subst hu
   obtain⟨v,g5,g6⟩:=Option.bind_eq_some_iff.1 g4
   unfold qbo at g5
   rw[if_neg (by omega),if_neg (by omega),if_neg (by omega),if_pos hq,List.getLast?_concat,List.dropLast_concat]at g5
   simp only at g5
   split at g5
   ·injection g5 with g5; subst g5
    exact ihl _ _ _ g6
   ·cases g5
theorem q4c {o:Nat} {p q:Pt} {b l:List Pt} (hp:p.kind=3∨p.kind=4) (hq:q.kind=5) (hb:Wf o b) {x:Sx} {B:List Sx} {y:Sx×List Sx} (h:qbr (p::b++q::l) x B=some y):qbr l x B=some y:=by
 have e:p::b++q::l=p::(b++(q::l)):=by simp
 rw[e]at h
 obtain⟨z,g1,g2⟩:=Option.bind_eq_some_iff.1 h
 unfold qbo at g1
 rw[if_neg (by omega),if_neg (by omega),if_pos hp]at g1
 injection g1 with g1; subst g1
 rw[qcv]at g2
 obtain⟨u,g3,g4⟩:=Option.bind_eq_some_iff.1 g2
 have hu:=q1u hb _ _ _ g3
 obtain⟨u1,u2⟩:=u
 simp only at hu g4
 subst hu
 obtain⟨v,g5,g6⟩:=Option.bind_eq_some_iff.1 g4
 unfold qbo at g5
 rw[if_neg (by omega),if_neg (by omega),if_neg (by omega),if_pos hq,List.getLast?_concat,List.dropLast_concat]at g5
 simp only at g5
 split at g5
 ·rename_i hx
  injection g5 with g5; subst g5
  simp only at g6
  rw[hx]at g6
  exact g6
 ·cases g5
theorem qxc {α:Type} {P l:List α} {o:Nat} {p:α} (h:P.drop o=p::l):P[o]?=some p∧P.drop (o+1)=l:=by
 have h1:P[o]?=some p:=by
  have:=congrArg (·[0]?) h
  simpa using this
 refine⟨h1,?_⟩
 have:=qip h1
 rw[h]at this
 exact((List.cons.injEq _ _ _ _).mp this).2.symm
theorem qxk (beh:Sr→List UInt8→Sx→Sr×Sx) {o:Nat} {l:List Pt} (h:Wf o l):∀(P:List Pt),P.drop o=l→(∀ p∈P,p.kind=6→∀ s x,beh s p.text x=(s,x)) →
  ∀(n:Nat) (s:Sr) (x:Sx) (B:List Sx) (y:Sx×List Sx),l.length<n→SxOk x→qbr l x B=some y→qdd beh P n o s x=(s,y.1):=by
 induction h with
 | nil o=>
   intro P hP hbeh n s x B y hn hx h
   injection h with h; subst h
   obtain⟨n,rfl⟩:∃ k,n=k+1:=⟨n - 1,by simp at hn; omega⟩
   unfold qdd
   have:P[o]?=Option.none:=by simpa using hP
   rw[this,qki hx]; rfl
 | leaf o p l hk _ ih=>
   intro P hP hbeh n s x B y hn hx h
   obtain⟨z,h1,h2⟩:=Option.bind_eq_some_iff.1 h
   obtain⟨hp,hd⟩:=qxc hP
   have hz:=qo8 hx h1
   obtain⟨n,rfl⟩:∃ k,n=k+1:=⟨n - 1,by simp at hn; omega⟩
   have hn':l.length<n:=by simp at hn; omega
   unfold qdd
   rw[hp,qki hx]
   unfold qbo at h1
   simp only[Bool.false_eq_true,if_false]
   by_cases k1:p.kind=1
   ·rw[if_pos k1]at h1 ⊢
    split at h1
    ·cases h1
    ·injection h1 with h1; subst h1
     exact ih P hd hbeh n s _ _ y hn' hz h2
   rw[if_neg k1]at h1 ⊢
   by_cases k2:p.kind=2
   ·rw[if_pos k2]at h1 ⊢
    split at h1
    ·injection h1 with h1; subst h1
     exact ih P hd hbeh n s _ _ y hn' hz h2
    ·cases h1
   rw[if_neg k2,if_neg (by omega),if_neg (by omega)]at h1
   rw[if_neg k2,if_neg (by omega),if_pos (by omega),hbeh p (List.mem_of_getElem? hp) (by omega)]
   injection h1 with h1; subst h1
   exact ih P hd hbeh n s _ _ y hn' hz h2
 | sec o p q b l hp hq h1 h2 hb _ ihb ihl=>
   intro P hP hbeh n s x B y hn hx h
   have e:p::b++q::l=p::(b++(q::l)):=by simp
   have hP2:=hP
   rw[e]at hP2
   obtain⟨hp0,hd⟩:=qxc hP2
   obtain⟨n,rfl⟩:∃ k,n=k+1:=⟨n - 1,by simp at hn; omega⟩
   have hd2:P.drop (o+b.length+2)=l:=by
    have:P.drop (o+1+b.length+1)=l:=by
     rw[Nat.add_assoc (o+1),← List.drop_drop,hd,← List.drop_drop,List.drop_left]
     rfl
    rw[show o+b.length+2=o+1+b.length+1 by omega]
    exact this
   unfold qdd
   rw[hp0,qki hx]
   simp only[Bool.false_eq_true,if_false]
   rw[if_neg (by omega),if_neg (by omega),if_pos hp,h1,show o+1+b.length+1=o+b.length+2 by omega]
   exact ihl P hd2 hbeh n s x B y (by simp at hn; omega) hx (q4c hp hq hb h)
theorem qsr {x s u:List UInt8} (h:x.isPrefixOf (s++u)=true) (hl:x.length≤s.length):x.isPrefixOf s=true:=by
 rw[List.isPrefixOf_iff_prefix]at h ⊢
 obtain⟨r,hr⟩:=h
 refine⟨s.drop x.length,?_⟩
 have h1:=congrArg (List.take x.length) hr
 rw[List.take_append_of_le_length (Nat.le_refl _),List.take_length,List.take_append_of_le_length hl]at h1
 conv=>lhs; lhs; rw[h1]
 exact List.take_append_drop _ _
theorem q3l {s x u:List UInt8} {j:Nat} (hj:j+x.length≤s.length):Go.Lib.occAt (s++u) x j=Go.Lib.occAt s x j:=by
 unfold Go.Lib.occAt
 rw[List.drop_append_of_le_length (by omega),Bool.eq_iff_iff]
 constructor
 ·intro h; exact qsr h (by rw[List.length_drop]; omega)
 ·intro h
  rw[List.isPrefixOf_iff_prefix]at h ⊢
  exact h.trans (List.prefix_append _ _)
theorem q6p {s:List UInt8} {j:Nat} (h:j+1=s.length):s.getLast?=s[j]?:=by
 rw[List.getLast?_eq_getElem?]
 congr 1; omega
theorem q8g {s:List UInt8} (u:List UInt8) (h:(Go.Lib.cut s [123,123]).2.2=false) (hl:s.getLast?≠some 123):Go.Lib.cut (s++123::123::u) [123,123]=(s,u,true):=by
 unfold Go.Lib.cut at h
 by_cases h0:0≤Go.Lib.index s [123,123]
 ·rw[if_pos h0]at h; cases h
 rcases Go.Lib.index_spec s [123,123]with ⟨h1,h2⟩ | ⟨i,h1,_⟩
 rotate_left
 ·omega
 have hi:Go.Lib.index (s++123::123::u) [123,123]=s.length:=by
  refine Go.Lib.index_first (by simp) ?_ ?_
  ·unfold Go.Lib.occAt
   rw[List.drop_left]
   simp[List.isPrefixOf]
  ·intro j hj
   by_cases hj2:j+2≤s.length
   ·rw[q3l (by simpa using hj2)]
    exact h2 j (by omega)
   ·unfold Go.Lib.occAt
    rw[List.drop_append_of_le_length (by omega),List.drop_eq_getElem_cons hj]
    rw[Bool.eq_false_iff]
    intro q
    simp only[List.cons_append,List.isPrefixOf,Bool.and_eq_true,beq_iff_eq]at q
    refine hl ?_
    rw[q6p (j:=j) (by omega),List.getElem?_eq_getElem hj,← q.1]
 unfold Go.Lib.cut
 rw[hi,if_pos (by omega)]
 simp only[Int.toNat_natCast,List.take_left,List.length_cons,List.length_nil,Nat.zero_add,Nat.reduceAdd]
 congr 2
 rw[← List.drop_drop,List.drop_left]
 rfl
theorem qkp (f:UInt8→Bool) (u:List UInt8):∀ l:List UInt8,l.dropWhile f≠[]→(l++u).dropWhile f=l.dropWhile f++u
 | [],h=>absurd rfl h
 | b::l,h=>by
   by_cases hb:f b=true
   ·rw[List.cons_append,List.dropWhile_cons_of_pos hb,List.dropWhile_cons_of_pos hb]
    rw[List.dropWhile_cons_of_pos hb]at h
    exact qkp f u l h
   ·rw[List.cons_append,List.dropWhile_cons_of_neg hb,List.dropWhile_cons_of_neg hb]; rfl
theorem qkq (f:UInt8→Bool) (u:List UInt8):∀ l:List UInt8,l.dropWhile f=[]→(l++u).dropWhile f=u.dropWhile f
 | [],_=>rfl
 | b::l,h=>by
   by_cases hb:f b=true
   ·rw[List.cons_append,List.dropWhile_cons_of_pos hb]
    rw[List.dropWhile_cons_of_pos hb]at h
    exact qkq f u l h
   ·rw[List.dropWhile_cons_of_neg hb]at h; cases h
theorem qvi (l:List UInt8):(qcg l).kind=qa6 l:=by
 have hn:∀ k n,(qc4 k n).kind=k:=by
  intro k n
  unfold qc4
  split<;>split<;>rfl
 unfold qcg
 by_cases h7:qa6 l=7
 ·rw[if_pos h7,h7]
 rw[if_neg h7]
 by_cases h8:qa6 l=8
 ·rw[if_pos h8,h8]
  unfold qga
  split
  ·rfl
  ·split
   ·split<;>rfl
   ·rfl
 rw[if_neg h8]
 split
 ·rename_i h2; rw[hn,h2]
 ·exact hn _ _
theorem q5q (c:Ct) (one:Tg) (p:Nat) (h:one.kind≠8):(c.take one p).2.op=c.op∧(c.take one p).2.cl=c.cl:=by
 unfold Ct.take
 by_cases h1:one.slip≠0
 ·rw[if_pos h1]; exact⟨rfl,rfl⟩
 rw[if_neg h1]
 by_cases h2:one.kind=7
 ·rw[if_pos h2]; exact⟨rfl,rfl⟩
 rw[if_neg h2,if_neg h]
 split
 ·split<;>exact⟨rfl,rfl⟩
 ·split
  ·split
   ·exact⟨rfl,rfl⟩
   ·split<;>exact⟨rfl,rfl⟩
  ·exact⟨rfl,rfl⟩
def tx (u:List UInt8) (y:Sx×List Sx):Option (Sx×List Sx):=match qa2 y.1 u with
 | some _=>Option.none
 | Option.none=>some (qau y.1 u,y.2)
theorem qnb (x:Sx) (b:UInt8) (l:List UInt8):qa2 x (b::l)=if qbv x.st.kind x.st.mode x.ma.far b=true then some 0 else(qa2 (x.behind b) l).map (·+ 1):=rfl
theorem qsk (u v:List UInt8):∀ x,qa2 x (u++v)=match qa2 x u with
  | some j=>some j
  | Option.none=>(qa2 (qau x u) v).map (·+ u.length):=by
 induction u with
 | nil=>
   intro x
   show qa2 x v=_
   have e:qa2 x []=Option.none:=rfl
   rw[e]
   show _=(qa2 x v).map (·+ 0)
   cases qa2 x v<;>rfl
 | cons b u ih=>
   intro x
   rw[List.cons_append,qnb,qnb]
   have e:qau x (b::u)=qau (x.behind b) u:=rfl
   rw[e]
   by_cases h:qbv x.st.kind x.st.mode x.ma.far b=true
   ·rw[if_pos h,if_pos h]
   ·rw[if_neg h,if_neg h,ih]
    cases qa2 (x.behind b) u with
    | some j=>rfl
    | none=>
      generalize qa2 (qau (x.behind b) u) v=q
      cases q with
      | none=>rfl
      | some j=>simp; omega
theorem q4w (u v:List UInt8) (y:Sx×List Sx):tx (u++v) y=(tx u y).bind (tx v):=by
 unfold tx
 rw[qsk]
 cases h:qa2 y.1 u with
 | some j=>rfl
 | none=>
   simp only[Option.bind_some]
   cases h2:qa2 (qau y.1 u) v with
   | some j=>rfl
   | none=>simp[qau]
theorem qr0 (y:Sx×List Sx):tx [] y=some y:=rfl
deriving instance DecidableEq for Tg
theorem qq1 {T:List UInt8} {p z:Nat} {b:UInt8} {r:List UInt8} (h:T.drop z=b::r) (hb:qet.contains b=false) (h10:b≠10):qdr T p z=(p,z):=by
 unfold qdr Go.Lib.trimLeftS
 rw[h,List.dropWhile_cons_of_neg (by rw[hb]; simp)]
 have e1:(List.head? (b::r)).any (·!= 10)=true:=by simp[h10]
 rw[e1,Bool.or_true,if_pos rfl]
theorem qs0 {T:List UInt8} {p z:Nat} {b:UInt8} {r:List UInt8} (h:T.take p=r++[b]) (hb:qet.contains b=false) (h10:b≠10):qdr T p z=(p,z):=by
 unfold qdr Go.Lib.trimRightS
 rw[h,List.reverse_append,List.reverse_cons,List.reverse_nil,List.nil_append,List.singleton_append,List.dropWhile_cons_of_neg (by rw[hb]; simp)]
 have e1:(b::r.reverse).reverse.getLast?.any (·!= 10)=true:=by simp[h10]
 rw[e1,Bool.true_or,if_pos rfl]
def noBr:List UInt8→Bool
 | []=>true
 | b::l=>(b != 123 || (match l with
   | []=>false
   | c::_=>c != 123)) && noBr l
theorem q3n {u v:List UInt8} (hu:noBr u=true) (hv:noBr v=true):noBr (u++v)=true:=by
 induction u with
 | nil=>exact hv
 | cons b u ih=>
   unfold noBr at hu
   rw[Bool.and_eq_true]at hu
   rw[List.cons_append]
   unfold noBr
   rw[Bool.and_eq_true]
   refine⟨?_,ih hu.2⟩
   cases u with
   | nil=>
     have h1:b≠123:=by simpa using hu.1
     have h2:(b != 123)=true:=by simpa using h1
     rw[h2,Bool.true_or]
   | cons c u=>exact hu.1
theorem q0y {u:List UInt8} (hu:noBr u=true):∀ i,¬(([123,123]:List UInt8) <+: u.drop i):=by
 induction u with
 | nil=>intro i h; simp at h
 | cons b u ih=>
   unfold noBr at hu
   rw[Bool.and_eq_true]at hu
   intro i
   cases i with
   | succ i=>exact ih hu.2 i
   | zero=>
     intro h
     obtain⟨r,hr⟩:=h
     simp only[List.cons_append,List.nil_append,List.drop_zero]at hr
     injection hr with e1 e2
     subst e1
     rw[← e2]at hu
     simp at hu
theorem qw2 {u:List UInt8} (hu:noBr u=true):(Go.Lib.cut u [123,123]).2.2=false:=by
 unfold Go.Lib.cut
 rcases Go.Lib.index_spec u [123,123]with ⟨h1,_⟩ | ⟨i,h1,h2,h3,_⟩
 ·rw[h1]; rfl
 ·exfalso
  unfold Go.Lib.occAt at h3
  rw[List.isPrefixOf_iff_prefix]at h3
  exact q0y hu i h3
theorem q0z {u:List UInt8} (hu:noBr u=true):u.getLast?≠some 123:=by
 induction u with
 | nil=>simp
 | cons b u ih=>
   unfold noBr at hu
   rw[Bool.and_eq_true]at hu
   cases u with
   | nil=>
     have h1:b≠123:=by simpa using hu.1
     simpa using h1
   | cons c u=>
     rw[List.getLast?_cons_cons]
     exact ih hu.2
theorem q15 (c r:List UInt8) (hc:(125:UInt8)∉c):Go.Lib.cut (c++125::125::r) [125,125]=(c,r,true):=by
 have hi:Go.Lib.index (c++125::125::r) [125,125]=c.length:=by
  refine Go.Lib.index_first (by simp) ?_ ?_
  ·unfold Go.Lib.occAt
   rw[List.drop_left]
   simp[List.isPrefixOf]
  ·intro j hj
   unfold Go.Lib.occAt
   rw[List.drop_append_of_le_length (by omega),List.drop_eq_getElem_cons hj]
   rw[Bool.eq_false_iff]
   intro q
   simp only[List.cons_append,List.isPrefixOf,Bool.and_eq_true,beq_iff_eq]at q
   exact hc (q.1▸List.getElem_mem hj)
 unfold Go.Lib.cut
 rw[hi,if_pos (by omega)]
 simp only[Int.toNat_natCast,List.take_left,List.length_cons,List.length_nil,Nat.zero_add,Nat.reduceAdd]
 congr 2
 rw[← List.drop_drop,List.drop_left]
 rfl
inductive Tok where
 | tx (u:List UInt8)
 | tg (c:List UInt8)
def Tok.bytes:Tok→List UInt8
 | .tx u=>u
 | .tg c=>123::123::(c++[125,125])
def qal:List Tok→List UInt8
 | []=>[]
 | k::l=>k.bytes++qal l
theorem qh2 (l m:List Tok):qal (l++m)=qal l++qal m:=by
 induction l with
 | nil=>rfl
 | cons k l ih=>show k.bytes++qal (l++m)=_; rw[ih,← List.append_assoc]; rfl
structure Cs where
 ct:Ct
 seen:List UInt8
 pend:List UInt8
def Cs.flush (s:Cs):Ct:=if s.pend=[] then s.ct else { s.ct with parts:=s.ct.parts++[⟨1,s.seen.length,s.pend,0⟩] }
def qd3 (c:List UInt8):Tg:=qcg (Go.Lib.trimS c qbc)
def Cs.step (s:Cs):Tok→Cs
 | .tx u=>{ s with pend:=s.pend++u }
 | .tg c=>⟨(s.flush.take (qd3 c) (s.seen.length+s.pend.length)).2,s.seen++s.pend++Tok.bytes (.tg c),[]⟩
def firm (b:UInt8):Bool:=b != 10 && !qet.contains b
def Good:List Tok→Cs→Prop
 | [],s=>noBr s.pend=true
 | .tx u::l,s=>Good l (s.step (.tx u))
 | .tg c::l,s=>noBr s.pend=true∧(125:UInt8)∉c∧(qd3 c).kind≠8∧(s.flush.take (qd3 c) (s.seen.length+s.pend.length)).1=0 ∧
   ((qd3 c).kind=2∨(s.seen++s.pend).getLast?.any firm=true∨(qal l).head?.any firm=true)∧Good l (s.step (.tg c))
theorem qkm (T:List UInt8) (s:Cs) (R:List UInt8) (hT:T=s.seen++(s.pend++R)):s.ct.addText T s.seen.length (s.seen.length+s.pend.length)=s.flush:=by
 unfold Ct.addText Cs.flush
 by_cases h:s.pend=[]
 ·rw[if_pos h,h]; simp
 ·rw[if_neg h]
  have:0<s.pend.length:=List.length_pos_iff.2 h
  rw[if_pos (by omega),hT,List.drop_left,show s.seen.length+s.pend.length - s.seen.length=s.pend.length by omega,List.take_left]
theorem qgv (s:Cs):s.flush.op=s.ct.op∧s.flush.cl=s.ct.cl∧s.flush.opened=s.ct.opened:=by
 unfold Cs.flush
 split<;>exact⟨rfl,rfl,rfl⟩
theorem qti {b:UInt8} (h:firm b=true):qet.contains b=false∧b≠10:=by
 unfold firm at h
 rw[Bool.and_eq_true]at h
 exact⟨by simpa using h.2,by simpa using h.1⟩
theorem quy (T:List UInt8):∀(l:List Tok) (s:Cs),CtOk T s.ct s.seen.length→s.ct.op=[123,123]→s.ct.cl=[125,125]→T=s.seen++(s.pend++qal l)→Good l s →
  s.ct.rest T s.seen.length=((l.foldl Cs.step s).flush.left,(l.foldl Cs.step s).flush.parts)
 | [],s,hok,hop,hcl,hT,hg=>by
   have hT':T=s.seen++s.pend:=by rw[hT]; simp[qal]
   have hd:T.drop s.seen.length=s.pend:=by rw[hT',List.drop_left]
   have hl:T.length=s.seen.length+s.pend.length:=by rw[hT',List.length_append]
   rw[qsm (qkd (by rw[hd,hop]; exact qw2 hg)),hl,qkm T s [] (by rw[List.append_nil]; exact hT')]
   rfl
 | .tx u::l,s,hok,hop,hcl,hT,hg=>by
   refine quy T l (s.step (.tx u)) hok hop hcl ?_ hg
   rw[hT]
   show s.seen++(s.pend++(u++qal l))=s.seen++((s.pend++u)++qal l)
   rw[List.append_assoc s.pend]
 | .tg c::l,s,hok,hop,hcl,hT,hg=>by
   obtain⟨g1,g2,g3,g4,g5,g6⟩:=hg
   have hT1:T=s.seen++(s.pend++123::123::(c++125::125::qal l)):=by
    rw[hT]
    show s.seen++(s.pend++(Tok.bytes (.tg c)++qal l))=_
    simp[Tok.bytes]
   have hd:T.drop s.seen.length=s.pend++123::123::(c++125::125::qal l):=by rw[hT1,List.drop_left]
   have hc1:=q8g (c++125::125::qal l) (qw2 g1) (q0z g1)
   have hc2:=q15 c (qal l) g2
   obtain⟨z,hz⟩:∃ z,z=s.seen.length+s.pend.length+4+c.length:=⟨_,rfl⟩
   have hln:(if(qd3 c).kind≠2 then qdr T (s.seen.length+s.pend.length) z else(s.seen.length+s.pend.length,z))=(s.seen.length+s.pend.length,z):=by
    by_cases k:(qd3 c).kind=2
    ·rw[if_neg (fun q=>q k)]
    rw[if_pos k]
    rcases g5 with g5 | g5 | g5
    ·exact absurd g5 k
    ·obtain⟨b,hb1,hb2⟩:=(Option.any_eq_true _ _).1 g5
     obtain⟨r,hr⟩:=List.getLast?_eq_some_iff.1 hb1
     obtain⟨f1,f2⟩:=qti hb2
     refine qs0 (b:=b) (r:=r) ?_ f1 f2
     rw[← hr,hT1,← List.append_assoc,show s.seen.length+s.pend.length=(s.seen++s.pend).length by rw[List.length_append],List.take_left]
    ·obtain⟨b,hb1,hb2⟩:=(Option.any_eq_true _ _).1 g5
     obtain⟨f1,f2⟩:=qti hb2
     obtain⟨r,hr⟩:∃ r,qal l=b::r:=by
      cases hq:qal l with
      | nil=>rw[hq]at hb1; cases hb1
      | cons x r=>rw[hq]at hb1; injection hb1 with e; exact⟨r,by rw[e]⟩
     refine qq1 (b:=b) (r:=r) ?_ f1 f2
     have e1:T=(s.seen++s.pend++123::123::(c++[125,125]))++qal l:=by rw[hT1]; simp
     have e2:z=(s.seen++s.pend++123::123::(c++[125,125])).length:=by rw[hz]; simp; omega
     rw[e1,e2,List.drop_left,hr]
   have hs:=ql8 (t:=T) (c:=s.ct) (a:=s.seen.length) (by rw[hd,hop,hc1]) (by rw[hd,hop,hc1,hcl,hc2]) (qd3 c) (by rw[hd,hop,hc1,hcl,hc2]; rfl) (s.seen.length+s.pend.length) z (by rw[hd,hop,hc1])
    (by rw[hd,hop,hc1,hcl,hc2,hz]; simp only[List.length_cons,List.length_nil]; omega) _ hln
   simp only[qkm T s _ hT1]at hs
   rw[if_neg (by rw[g4]; simp)]at hs
   have hlen:(s.step (.tg c)).seen.length=z:=by
    show (s.seen++s.pend++Tok.bytes (.tg c)).length=z
    rw[hz]; simp[Tok.bytes]; omega
   have ht:=q5q s.flush (qd3 c) (s.seen.length+s.pend.length) g3
   have hf:=qgv s
   rw[qne hok hs,← hlen]
   refine quy T l (s.step (.tg c)) ?_ ?_ ?_ ?_ g6
   ·rw[hlen]; exact(qfi hok hs).1
   ·exact ht.1.trans (hf.1.trans hop)
   ·exact ht.2.trans (hf.2.1.trans hcl)
   ·rw[hT1]; simp[Cs.step,Tok.bytes]
end Go.Proofs.YtfkhljmiehdgmaaGreatDoor.Pl
namespace Go.Proofs.YtfkhljmiehdgmaaGreatDoor
open Go
theorem qyg {P:Program} {l n:Nat} {o:Oper} {a:Act} {w:World} {K:Act→World→Prop} {Q:Exit→Act→World→Prop} (hd:∀ c,o.op≠.defer c) (h:o.wp P a w K Q):o.wpIn (Fence.wide.inRound l) n P a w K Q:=by
 unfold Oper.wpIn
 refine⟨fun _ _=>trivial,?_⟩
 show Oper.uponIn _ _ _ _ _ _ _ ((o.semAt (some l) a.eval).run P w)
 rw[Oper.semAt_some l a.eval o hd]
 unfold Oper.wp at h
 generalize (execOp a.eval o).run P w=r at h ⊢
 cases r with
 | ok x w'=>
   cases x<;>simp only[Oper.upon]at h<;>simp only[Oper.uponIn]
   all_goals first
    | exact h
    | exact⟨fun hx=>by simp[Fence.wide,Fence.inRound]at hx,(callsIn_wide (n:=n - 1)).2 h⟩
    | (refine⟨fun hx=>by simp[Fence.wide,Fence.inRound]at hx,fun c cs _=>?_⟩; obtain⟨v,w2,r,s⟩:=h c cs; exact⟨v,w2,r,stepsIn_wide.2 s⟩)
 | halt x w'=>cases x<;>simp only[Oper.upon]at h<;>simp only[Oper.uponIn]<;>exact h
def qqw (ops:Array Oper):Bool:=ops.all fun o=>match o.op with
 | .defer _=>false
 | _=>true
theorem qyk {ops:Array Oper} (h:qqw ops=true) {i:Nat} {o:Oper} (hi:ops[i]?=some o):∀ c,o.op≠.defer c:=by
 intro c hc
 obtain⟨hlt,he⟩:=Array.getElem?_eq_some_iff.1 hi
 have:=(Array.all_eq_true.1 h) i hlt
 rw[he,hc]at this
 cases this
theorem qxi {P:Program} {l n i:Nat} {ops:Array Oper} {a:Act} {w:World} {K K':Act→World→Prop} {Q:Exit→Act→World→Prop} (hd:qqw ops=true) (hL:¬ LetsOut Q) (hK:∀ a w,K a w→K' a w) (h:wpOp P ops Q i K a w):wpOpIn (Fence.wide.inRound l) n P ops Q i K' a w:=by
 have h:=wpOp_mono hK h
 unfold wpOp at h
 unfold wpOpIn
 cases ho:ops[i]? with
 | none=>rw[ho]at h; exact h
 | some o=>
   rw[ho]at h
   simp only at h ⊢
   split
   ·rename_i hw
    rw[if_pos hw]at h
    rcases h with h | h
    ·exact qyg (qyk hd ho) h
    ·exact absurd h.2 hL
   ·rename_i hw
    rw[if_neg hw]at h
    exact⟨fun _ _=>trivial,h⟩
theorem qmj {P:Program} {l n:Nat} {md:Region.Mode} {ops:Array Oper} {Q:Exit→Act→World→Prop} (hd:qqw ops=true) (hL:¬ LetsOut Q):∀(fuel:Nat) (listed:Array Bool) (a:Act) (w:World),wpAny P md ops Q fuel listed a w→wpAnyIn (Fence.wide.inRound l) n P md ops Q fuel listed a w
 | 0,_,_,_,h=>h
 | fuel+1,_,_,_,h=>⟨h.1,fun i hi=>qxi hd hL (fun a' w' h'=>qmj hd hL fuel _ a' w' h') (h.2 i hi)⟩
theorem qlg {P:Program} {id l n:Nat} {ops:Array Oper} {Q:Exit→Act→World→Prop} {S:World→Prop} {a:Act} {w:World} (hm:P.follows .mixedOrders=true) (hd:qqw ops=true) (hL:¬ LetsOut Q)
  (h:wpAnyH P .any ops Q S ops.size (Array.replicate ops.size false) a w.drew):(Code.region id ops true).wpIn (Fence.wide.inRound l) n P Q a w:=
 wpIn_region_any hm (qmj hd hL _ _ _ _ (wpAny_of_held _ _ _ _ h))
end Go.Proofs.YtfkhljmiehdgmaaGreatDoor
namespace Go.Proofs.YtfkhljmiehdgmaaGreatDoor.Pl
open Go.Lib
structure Dt where
 kind:Int
 n:Int
 s:List UInt8
 items:List Int
 names:List (List UInt8)
def Dt.null:Dt:=⟨0,0,[],[],[]⟩
abbrev Pc:=Option Nat
def qbb (D:List Dt):Pc→Dt
 | none=>Dt.null
 | some k=>D.getD k Dt.null
def qc9 (k:Nat) (n:Int):Pc:=if n≤k then none else some n.toNat
def qjh (name:List UInt8):List (List UInt8)→List Int→Option Int
 | a::l,i::m=>if a=name then some i else qjh name l m
 | _,_=>none
def ql3 (D:List Dt) (p:Pc) (name:List UInt8):Option Pc:=
 match p with
 | none=>none
 | some k=>if(qbb D (some k)).kind≠5 then none else(qjh name (qbb D (some k)).names (qbb D (some k)).items).map (qc9 k)
def qcf (d:Dt):List UInt8:=if d.kind=1 then formatBool (d.n != 0) else if d.kind=2 then itoa d.n else if d.kind=3 then d.s else[]
def qoz (d:Dt):Bool:=if d.kind=1 then d.n==0 else if d.kind=3 then d.s==[] else if d.kind=4 then d.items.length==0 else if d.kind=2∨d.kind=5 then false else true
def qj9 (D:List Dt) (p:Pc):List Pc:=
 match p with
 | none=>[none]
 | some k=>if(qbb D (some k)).kind≠4 then[some k] else(qbb D (some k)).items.map (qc9 k)
def qg5 (D:List Dt) (name:List UInt8):List Pc→Pc
 | []=>none
 | p::l=>match ql3 D p name with
   | some q=>q
   | none=>qg5 D name l
def qn3 (D:List Dt):Nat→Pc→List UInt8→Bool→Pc
 | 0,p,_,_=>p
 | f+1,p,rest,more=>if more=false then p else qn3 D f ((ql3 D p (cut rest [46]).1).getD none) (cut rest [46]).2.1 (cut rest [46]).2.2
def qds (D:List Dt) (S:List Pc) (name:List UInt8):Pc:=
 if name=[46] then(S.head?).getD none else qn3 D (name.length+1) (qg5 D (cut name [46]).1 S) (cut name [46]).2.1 (cut name [46]).2.2
structure Wt where
 out:List UInt8
 holes:List (Nat×Nat×Int)
 steps:Nat
structure Ev where
 D:List Dt
 S:List Src
 vis:List (Nat×List Int)
 depth:Int
 room:Int
def Ev.parts (e:Ev) (v:Nat):List Pt:=match e.vis[v]? with
 | some x=>match e.S[x.1]? with
   | some s=>s.parts
   | none=>[]
 | none=>[]
def Ev.marks (e:Ev) (v:Nat):List Int:=match e.vis[v]? with
 | some x=>x.2
 | none=>[]
def Ev.put (e:Ev) (w:Wt) (t:List UInt8):Wt×Int:=
 if 0≤e.room∧e.room - w.out.length<t.length then({ w with out:=w.out++t.take (e.room - w.out.length).toNat },6) else({ w with out:=w.out++t },0)
def Ev.hole (e:Ev) (K:List Pc) (w:Wt) (name:List UInt8) (azs:Int):Wt×Int:=
 if qgw azs≠0 then(w,qgw azs) else
 ({ (e.put w (qan azs (qcf (qbb e.D (qds e.D K name))))).1 with holes:=w.holes++[(w.out.length,(e.put w (qan azs (qcf (qbb e.D (qds e.D K name))))).1.out.length,azs)] },
  (e.put w (qan azs (qcf (qbb e.D (qds e.D K name))))).2)
def qcj (body:List Pc→Wt→Wt×Int) (K:List Pc):List Pc→Wt→Wt×Int
 | [],w=>(w,0)
 | p::l,w=>if(body (p::K) w).2≠0 then body (p::K) w else qcj body K l (body (p::K) w).1
def qc1 (go:Wt→Wt×Int) (w:Wt):Wt×Int:=if w.steps=5000 then(w,5) else go { w with steps:=w.steps+1 }
def Ev.section (e:Ev) (body:List Pc→Wt→Wt×Int) (K:List Pc) (kind:Nat) (name:List UInt8) (w:Wt):Wt×Int:=
 if qoz (qbb e.D (qds e.D K name))≠decide (kind=4) then(w,0)
 else if kind=4 then body K w else qcj body K (qj9 e.D (qds e.D K name)) w
def Ev.run (e:Ev):Nat→Nat→Nat→Nat→Int→List Pc→Wt→Wt×Int
 | 0,_,_,_,_,_,w=>(w,5)
 | f+1,v,at',tz,qac,K,w=>
   if tz≤at' then(w,0) else qc1 (fun w=>
    match (e.parts v)[at']? with
    | none=>(w,0)
    | some p=>
      let mark:=(e.marks v).getD at' 0
      let on:=fun(r:Wt×Int) (next:Nat)=>if r.2≠0 then r else e.run f v next tz qac K r.1
      if p.kind=1 then on (e.put w p.text) (at'+1)
      else if p.kind=2 then on (e.hole K w p.text mark) (at'+1)
      else if p.kind=3∨p.kind=4 then on (e.section (fun K w=>qc1 (e.run f v (at'+1) p.mate qac K) w) K p.kind p.text w) (p.mate+1)
      else if p.kind=6 then on (if mark=0 then(w,0) else if e.depth<qac+1 then(w,4) else e.run f mark.toNat 0 (e.parts mark.toNat).length (qac+1) K w) (at'+1)
      else on (w,0) (at'+1)) w
def Ev.page (e:Ev):Wt×Int:=e.run 5002 0 0 (e.parts 0).length 0 [some 0] ⟨[],[],0⟩
theorem qgp {go:Wt→Wt×Int} (hgo:∀ w,w.steps≤5000→w.steps≤(go w).1.steps∧(go w).1.steps≤5000) (w:Wt) (h:w.steps≤5000):w.steps≤(qc1 go w).1.steps∧(qc1 go w).1.steps≤5000:=by
 unfold qc1
 split
 ·exact⟨Nat.le_refl _,h⟩
 ·have:=hgo { w with steps:=w.steps+1 } (by show w.steps+1≤5000; omega)
  have e:({ w with steps:=w.steps+1 }:Wt).steps=w.steps+1:=rfl
  omega
theorem qer (e:Ev) (w:Wt) (t:List UInt8):(e.put w t).1.steps=w.steps:=by unfold Ev.put; split<;>rfl
theorem qpp (e:Ev) (K:List Pc) (w:Wt) (name:List UInt8) (azs:Int):(e.hole K w name azs).1.steps=w.steps:=by
 unfold Ev.hole
 split
 ·rfl
 ·exact qer _ _ _
theorem qlp {body:List Pc→Wt→Wt×Int} (hb:∀ K w,w.steps≤5000→w.steps≤(body K w).1.steps∧(body K w).1.steps≤5000) (K:List Pc):∀(l:List Pc) (w:Wt),w.steps≤5000→w.steps≤(qcj body K l w).1.steps∧(qcj body K l w).1.steps≤5000
 | [],w,h=>⟨Nat.le_refl _,h⟩
 | p::l,w,h=>by
   unfold qcj
   have h1:=hb (p::K) w h
   split
   ·exact h1
   ·have h2:=qlp hb K l _ h1.2
    omega
theorem qkf (e:Ev) {body:List Pc→Wt→Wt×Int} (hb:∀ K w,w.steps≤5000→w.steps≤(body K w).1.steps∧(body K w).1.steps≤5000) (K:List Pc) (kind:Nat) (name:List UInt8) (w:Wt) (h:w.steps≤5000) :
  w.steps≤(e.section body K kind name w).1.steps∧(e.section body K kind name w).1.steps≤5000:=by
 unfold Ev.section
 split
 ·exact⟨Nat.le_refl _,h⟩
 ·split
  ·exact hb K w h
  ·exact qlp hb K _ w h
theorem qnc (e:Ev):∀(f v at' tz:Nat) (qac:Int) (K:List Pc) (w:Wt),w.steps≤5000→w.steps≤(e.run f v at' tz qac K w).1.steps∧(e.run f v at' tz qac K w).1.steps≤5000:=by
 intro f
 induction f with
 | zero=>intro v at' tz qac K w h; exact⟨Nat.le_refl _,h⟩
 | succ f IH=>
   intro v at' tz qac K w h
   unfold Ev.run
   split
   ·exact⟨Nat.le_refl _,h⟩
   ·refine qgp (fun w h=>?_) w h
    have hon:∀(r:Wt×Int) (next:Nat),(w.steps≤r.1.steps∧r.1.steps≤5000)→w.steps≤(if r.2≠0 then r else e.run f v next tz qac K r.1).1.steps∧(if r.2≠0 then r else e.run f v next tz qac K r.1).1.steps≤5000:=by
     intro r next hr
     split
     ·exact hr
     ·have:=IH v next tz qac K r.1 hr.2
      omega
    split
    ·exact⟨Nat.le_refl _,h⟩
    ·rename_i p hp
     dsimp only
     split
     ·exact hon _ _ (by rw[qer]; exact⟨Nat.le_refl _,h⟩)
     split
     ·exact hon _ _ (by rw[qpp]; exact⟨Nat.le_refl _,h⟩)
     split
     ·exact hon _ _ (qkf e (fun K w h=>qgp (fun w h=>IH _ _ _ _ _ w h) w h) K _ _ w h)
     split
     ·refine hon _ _ ?_
      split
      ·exact⟨Nat.le_refl _,h⟩
      ·split
       ·exact⟨Nat.le_refl _,h⟩
       ·exact IH _ _ _ _ _ w h
     ·exact hon (w,0) _ ⟨Nat.le_refl _,h⟩
end Go.Proofs.YtfkhljmiehdgmaaGreatDoor.Pl
