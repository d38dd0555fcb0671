/-
  Steps of the proof.
-/
import Derived.Test.YtfkhljmiehdgmaaGreatDoorCmAA
import Derived.Shelf.Strings.Builder1
import Derived.Shelf.Strings.Builder2
import Derived.Shelf.Strings.Trim
import Derived.Shelf.Small.Utf8
import Derived.Shelf.Small.Strs
import Derived.Shelf.Small.Wraps
import Derived.Shelf.Strings.BuilderF
import Derived.Shelf.Strings.BuilderK
import Derived.Shelf.Strings.BuilderRune
import Derived.Shelf.Utf8.AppendRune
import Derived.Shelf.Utf8.AppendRunePlain
import Derived.Shelf.Utf8.RuneCount
import Derived.Shelf.Strings.Builder2Cap
import Derived.Shelf.Strconv.Itoa0
import Derived.Shelf.Strconv.Itoa1
import Derived.Shelf.LaysM
import Derived.Shelf.Strconv.Itoa2
import Derived.Shelf.Strconv.Itoa3
import Derived.Shelf.Strconv.Itoa4
import Derived.Shelf.Strconv.Clone
import Derived.Shelf.Strings.Search1
import Derived.Shelf.Strings.Search2
import Derived.Shelf.Strings.Search3
import Derived.Shelf.Strings.Cut
import Derived.Shelf.Strings.Count
import Derived.Shelf.Strings.Shaped
import Derived.Shelf.Strings.Prefix
import Derived.Shelf.Strings.Split
import Derived.Shelf.Strings.SplitShaped
import Derived.Shelf.Unicode.Decode
import Derived.Shelf.Strings.Runes
import Derived.Shelf.Strings.RuneCount
import Derived.Shelf.Strings.AsciiSet
import Derived.Shelf.Strings.Explode
import Derived.Shelf.Unicode.DecodeSlow
import Derived.Shelf.Unicode.DecodeAny
import Derived.Shelf.Unicode.DecodeLast
import Derived.Shelf.Strings.FieldsFuncAny
import Derived.Shelf.Strings.FieldsFuncGrows
import Derived.Shelf.Strings.BuilderCap
import Derived.Test.YtfkhljmiehdgmaaGreatDoorProg
import Derived.Lib.MapLaws
import Derived.Lib.TrimUEq
import Derived.Lib.Bytealg
import Derived.Lib.TrimU
set_option maxRecDepth 100000
set_option maxHeartbeats 40000000
namespace Go.Proofs.YtfkhljmiehdgmaaGreatDoor.Pl
variable{o:Nat}{l:List Pt}{st:List Nat}
inductive Wf:Nat->List Pt->Prop
 |nil (o:Nat):Wf o []
 |leaf (o:Nat) (p:Pt) (l:List Pt):(p.kind=1\/p.kind=2\/p.kind=6)->Wf (o+1) l->Wf o (p::l)
 |sec (o:Nat) (p q:Pt) (b l:List Pt):(p.kind=3\/p.kind=4)->q.kind=5->p.mate=o+1+b.length->q.mate=o->Wf (o+1) b->Wf (o+b.length+2) l->Wf o (p::b++q::l)
inductive WfO:List Pt->List Nat->Prop
 |done (l:List Pt):Wf 0 l->WfO l []
 |opn (l:List Pt) (p:Pt) (m:List Pt) (st:List Nat):WfO l st->(p.kind=3\/p.kind=4)->Wf (l.length+1) m->WfO (l++p::m) (st++[l.length])
theorem Wf.append{m:List Pt}(h:Wf o l)(hm:Wf (o+l.length) m):Wf o (l++m):=by
 induction h with
 |nil o=>simpa using hm
 |leaf o p l hk _ ih=>
   refine .leaf o p _ hk (ih ?_);simpa [Nat.add_assoc,Nat.add_comm,Nat.add_left_comm]using hm
 |sec o p q b l hp hq h1 h2 hb _ _ ih=>
   have e:p::b++q::l++m=p::b++q::(l++m):=by simp
   rw[e];refine .sec o p q b _ hp hq h1 h2 hb (ih ?_);simpa [Nat.add_assoc,Nat.add_comm,Nat.add_left_comm]using hm
theorem Wf.one(p:Pt)(hk:p.kind=1\/p.kind=2\/p.kind=6):Wf o [p]:=.leaf o p [] hk (.nil _)
theorem WfO.snoc(h:WfO l st)(p:Pt)(hk:p.kind=1\/p.kind=2\/p.kind=6):WfO (l++[p]) st:=by
 cases h with
 |done l h=>exact .done _ (h.append (.one p hk))
 |opn l q m st h hq hm=>
   have e:l++q::m++[p]=l++q::(m++[p]):=by simp
   rw[e];exact .opn l q _ st h hq (hm.append (.one p hk))
theorem WfO.push(h:WfO l st)(p:Pt)(hk:p.kind=3\/p.kind=4):WfO (l++[p]) (st++[l.length]):=.opn l p [] st h hk (.nil _)
theorem qwt(l:List Pt)(p:Pt)(m:List Pt)(n:Nat):qbc (l++p::m) l.length n=l++{ p with mate:=n }::m:=by
 unfold qbc
 induction l with
 |nil=>rfl
 |cons x l ih=>simpa using ih
theorem WfO.last(h:WfO l st)(m:Nat)(hm:st.getLast?=some m) :
  ∃(a:List Pt) (p:Pt) (b:List Pt),l=a++p::b/\m=a.length/\(p.kind=3\/p.kind=4)/\Wf (a.length+1) b/\WfO a st.dropLast:=by
 cases h with
 |done l h=>simp at hm
 |opn l q m' st h hq hb=>
   rw[List.getLast?_concat]at hm;refine⟨l,q,m',rfl,(Option.some.inj hm).symm,hq,hb,?_⟩;rw[List.dropLast_concat];exact h
theorem WfO.pop(h:WfO l st)(m:Nat)(hm:st.getLast?=some m)(q:Pt)(hq:q.kind=5)(hc:q.mate=m):WfO (qbc l m l.length++[q]) st.dropLast:=by
 obtain⟨a,p,b,rfl,rfl,hp,hb,ha⟩:=h.last m hm;have W:∀(p':Pt),(p'.kind=3\/p'.kind=4)->p'.mate=(a++p::b).length->∀o,o=a.length->Wf o (p'::b++[q]):=by
  rintro p' hk Hc o rfl;refine .sec _ p' q b [] hk hq ?_ hc hb (.nil _);rw[Hc];simp;omega
 rw[qwt];generalize hP:({ p with mate:=(a++p::b).length }:Pt)=p';have Ha:p'.kind=3\/p'.kind=4:=by subst hP;exact hp
 have Hb:p'.mate=(a++p::b).length:=by subst hP;rfl
 have e:a++p'::b++[q]=a++(p'::b++[q]):=by simp
 rw[e];generalize he:st.dropLast=st' at ha;clear hP he hm h;cases ha with
 |done a ha=>exact .done _ (ha.append (W p' Ha Hb _ (Nat.zero_add _)))
 |opn l' q' m' st' ha hq' hb'=>
   have e2:l'++q'::m'++(p'::b++[q])=l'++q'::(m'++(p'::b++[q])):=by simp
   rw[e2];exact .opn l' q' _ st' ha hq' (hb'.append (W p' Ha Hb _ (by simp;omega)))
theorem WfO.lt(h:WfO l st):∀m∈st,m<l.length:=by
 induction h with
 |done l _=>intro m hm;cases hm
 |opn l p b st _ _ _ ih=>
   intro m hm;rcases List.mem_append.1 hm with h|h
   ·have:=ih m h;simp;omega
   ·simp at h;subst h;simp
variable{t:List UInt8}{c:Ct}{a:Nat}
theorem q4y{b:Bool}(h:¬b=false):b=true:=by cases b<;>simp_all
theorem qjg(s x:List UInt8)(h:(Go.Lib.cut s x).2.2=true):∃i:Nat,Go.Lib.index s x=i/\i+x.length<=s.length/\(Go.Lib.cut s x).1=s.take i/\(Go.Lib.cut s x).2.1=s.drop (i+x.length)/\(Go.Lib.cut s x).1.length=i:=by
 unfold Go.Lib.cut at h |-;by_cases h0:0<=Go.Lib.index s x
 ·have hr:=Go.Lib.index_room s x h0
  rw[if_pos h0];refine⟨(Go.Lib.index s x).toNat,by omega,by omega,rfl,rfl,?_⟩;simp only[List.length_take];omega
 ·rw[if_neg h0]at h;cases h
theorem qj7{α:Type}(f:α->Bool)(l:List α):(l.dropWhile f).length<=l.length:=(List.dropWhile_sublist f).length_le
theorem qk8(l cs:List UInt8):(Go.Lib.trimRightS l cs).length<=l.length:=by
 unfold Go.Lib.trimRightS;have:=qj7 (cs.contains ·) l.reverse;simpa using this
theorem qib(l cs:List UInt8):(Go.Lib.trimLeftS l cs).length<=l.length:=qj7 _ _
theorem qyq(l p:List UInt8):(Go.Lib.trimPrefix l p).length<=l.length:=by
 unfold Go.Lib.trimPrefix;split<;>simp
theorem qo6(t:List UInt8)(a z:Nat)(h:a<=t.length)(hz:z<=t.length):(qeg t a z).1<=a/\z<=(qeg t a z).2/\(qeg t a z).2<=t.length:=by
 unfold qeg;split
 ·exact⟨Nat.le_refl _,Nat.le_refl _,hz⟩
 ·have h1:=qk8 (t.take a) qdp
  have h2:=qyq (Go.Lib.trimLeftS (t.drop z) qdp) [10];have h3:=qib (t.drop z) qdp;rw[List.length_take]at h1;rw[List.length_drop]at h3;refine⟨?_,?_,?_⟩<;>simp only<;>omega
theorem qqb(l:List UInt8):∀cur,∀x∈qbn cur l,x≠[]:=by
 induction l with
 |nil=>intro cur x hx;unfold qbn at hx;split at hx<;>simp_all
 |cons b l ih=>
   intro cur x hx;unfold qbn at hx;split at hx
   ·split at hx
    ·exact ih _ x hx
    ·rcases List.mem_cons.1 hx with rfl|hx
     ·assumption
     ·exact ih _ x hx
   ·exact ih _ x hx
structure TgOk(one:Tg):Prop where
 kind:2<=one.kind/\one.kind<=8
 op:one.kind=8->one.slip=0->(1<=one.op.length/\one.op.length<=3)/\1<=one.cl.length/\one.cl.length<=3
theorem qut(c:List UInt8):2<=qa0 c/\qa0 c<=8:=by
 unfold qa0;split
 ·omega
 ·repeat' split
  all_goals omega
theorem qvk{l:List UInt8}(h:l≠[]):1<=l.length:=by
 cases l with
 |nil=>exact absurd rfl h
 |cons b l=>simp
theorem q3h(c:List UInt8):TgOk (qdc c):=by
 unfold qdc;split
 ·exact⟨by simp,fun _ h=>by cases h⟩
 ·split
  ·rename_i a b hw
   have h1:=qqb _ _ a (by show a∈qfq _;rw[hw];simp);have h2:=qqb _ _ b (by show b∈qfq _;rw[hw];simp);split
   ·rename_i hd
    obtain⟨d1,d2⟩:=hd;unfold qd7 at d1 d2;simp only[Bool.and_eq_true,decide_eq_true_eq]at d1 d2;exact⟨by simp,fun _ _=>⟨⟨qvk h1,d1.1⟩,qvk h2,d2.1⟩⟩
   ·exact⟨by simp,fun _ h=>by cases h⟩
  ·exact⟨by simp,fun _ h=>by cases h⟩
theorem qqy(k:Nat)(n:List UInt8)(h:2<=k/\k<8):TgOk (qca k n):=by
 unfold qca;split<;>split<;>exact⟨by simp;omega,fun e=>by simp at e;omega⟩
theorem qos(c:List UInt8):TgOk (qa9 c):=by
 have hk:=qut c;unfold qa9;split
 ·exact⟨by simp,fun h=>by cases h⟩
 ·split
  ·exact q3h c
  ·split
   ·exact qqy _ _ (by omega)
   ·exact qqy _ _ (by omega)
structure CtOk(t:List UInt8)(c:Ct)(a:Nat):Prop where
 op:1<=c.op.length/\c.op.length<=3
 cl:1<=c.cl.length/\c.cl.length<=3
 le:a<=t.length
 few:c.parts.length<=a
 six:c.opened.length<=6
 wf:WfO c.parts c.opened
theorem qh4(t:List UInt8):CtOk t Ct.start 0:=⟨by decide,by decide,Nat.zero_le _,by decide,by decide,.done _ (.nil _)⟩
theorem qh6(h:CtOk t c a)(z n:Nat)(hn:a<=n)(hz:z<=n)(ht:n<=t.length):CtOk t (c.addText t a z) n:=by
 unfold Ct.addText;split
 ·rename_i q
  have:=h.few;exact⟨h.op,h.cl,ht,by simp;omega,h.six,h.wf.snoc _ (.inl rfl)⟩
 ·exact⟨h.op,h.cl,ht,Nat.le_trans h.few hn,h.six,h.wf⟩
theorem qid(l:List Pt)(m n:Nat):(qbc l m n).length=l.length:=by simp[qbc]
theorem q4z(h:CtOk t c a)(one:Tg)(ho:TgOk one)(p n:Nat)(hn:a+1<=n)(ht:n<=t.length)(hs:(c.take one p).1=0):CtOk t (c.take one p).2 n:=by
 unfold Ct.take at hs |-;have hf:=h.few;by_cases h1:one.slip≠0
 ·rw[if_pos h1]at hs;exact absurd hs h1
 rw[if_neg h1]at hs |-;have h1:one.slip=0:=by omega
 by_cases h2:one.kind=7
 ·rw[if_pos h2];exact⟨h.op,h.cl,ht,by show c.parts.length<=_;omega,h.six,h.wf⟩
 rw[if_neg h2]at hs |-;by_cases h3:one.kind=8
 ·rw[if_pos h3];exact⟨(ho.op h3 h1).1,(ho.op h3 h1).2,ht,by show c.parts.length<=_;omega,h.six,h.wf⟩
 rw[if_neg h3]at hs |-;by_cases h4:one.kind=3\/one.kind=4
 ·rw[if_pos h4]at hs |-
  by_cases h5:c.opened.length=6
  ·rw[if_pos h5]at hs;cases hs
  ·rw[if_neg h5]
   have:=h.six;exact⟨h.op,h.cl,ht,by simp;omega,by simp;omega,h.wf.push _ h4⟩
 rw[if_neg h4]at hs |-;by_cases h5:one.kind=5
 ·rw[if_pos h5]at hs |-
  cases hl:c.opened.getLast? with
  |none=>rw[hl]at hs;cases hs
  |some m=>
    rw[hl]at hs;by_cases h6:qlb c.parts m≠one.name
    ·simp only[if_pos h6]at hs;cases hs
    ·simp only[if_neg h6]
     have:=h.six;refine⟨h.op,h.cl,ht,by simp[qid];omega,by simp;omega,?_⟩;exact h.wf.pop m hl ⟨5,p,one.name,m⟩ rfl rfl
 ·rw[if_neg h5]
  have:=ho.kind;exact⟨h.op,h.cl,ht,by simp;omega,h.six,h.wf.snoc _ (by simp only;omega)⟩
theorem qga(h:CtOk t c a){d:Ct}{b:Nat}(hs:c.step t a=.next d b):CtOk t d b/\a<b:=by
 unfold Ct.step at hs;have Hb:=h.le;by_cases h1:(Go.Lib.cut (t.drop a) c.op).2.2=false
 ·rw[if_pos h1]at hs;cases hs
 rw[if_neg h1]at hs;obtain⟨i,_,hi,_,hr,Ha⟩:=qjg _ _ (q4y h1);simp only[Ha,hr]at hs;rw[List.length_drop]at hi;by_cases h2:(Go.Lib.cut ((t.drop a).drop (i+c.op.length)) c.cl).2.2=false
 ·rw[if_pos h2]at hs;cases hs
 rw[if_neg h2]at hs;obtain⟨j,_,hj,_,_,hb⟩:=qjg _ _ (q4y h2);rw[hb]at hs;rw[List.length_drop,List.length_drop]at hj;have ha:=qos (Go.Lib.trimS (Go.Lib.cut ((t.drop a).drop (i+c.op.length)) c.cl).1 qah);generalize qa9 _=one at hs ha;have ho:=h.op;have hc:=h.cl;have hO:(if one.kind≠2 then qeg t (a+i) (a+i+c.op.length+j+c.cl.length)else(a+i,a+i+c.op.length+j+c.cl.length)).1<=a+i/\a+i+c.op.length+j+c.cl.length<=(if one.kind≠2 then qeg t (a+i) (a+i+c.op.length+j+c.cl.length)else(a+i,a+i+c.op.length+j+c.cl.length)).2/\(if one.kind≠2 then qeg t (a+i) (a+i+c.op.length+j+c.cl.length)else(a+i,a+i+c.op.length+j+c.cl.length)).2<=t.length:=by
  split
  ·exact qo6 _ _ _ (by omega) (by omega)
  ·refine⟨Nat.le_refl _,Nat.le_refl _,?_⟩;show a+i+c.op.length+j+c.cl.length<=t.length;omega
 generalize (if one.kind≠2 then qeg t (a+i) (a+i+c.op.length+j+c.cl.length)else(a+i,a+i+c.op.length+j+c.cl.length))=o at hs hO;obtain⟨o1,o2⟩:=o;simp only at hs hO;by_cases h3:((c.addText t a o1).take one (a+i)).1≠0
 ·rw[if_pos h3]at hs;cases hs
 rw[if_neg h3]at hs;injection hs with e1 e2;subst e1 e2;refine⟨q4z (a:=a+i) (qh6 h o1 _ (by omega) (by omega) (by omega)) one ha _ _ (by omega) (by omega) (by omega),by omega⟩
theorem q40{l:List Pt}{st:List Nat}(h:WfO l st)(hs:st.getLast?=none):Wf 0 l:=by
 cases h with
 |done l h=>exact h
 |opn=>simp at hs
theorem qx7{k p:Nat}(hs:c.step t a=.slip k p):k≠0:=by
 unfold Ct.step at hs;by_cases h1:(Go.Lib.cut (t.drop a) c.op).2.2=false
 ·rw[if_pos h1]at hs;cases hs
 rw[if_neg h1]at hs;simp only at hs;by_cases h2:(Go.Lib.cut (Go.Lib.cut (t.drop a) c.op).2.1 c.cl).2.2=false
 ·rw[if_pos h2]at hs;injection hs with e _;omega
 rw[if_neg h2]at hs;generalize hO:(if(qa9 _).kind≠2 then _ else _:Nat×Nat)=o at hs;by_cases h3:((c.addText t a o.1).take (qa9 (Go.Lib.trimS (Go.Lib.cut (Go.Lib.cut (t.drop a) c.op).2.1 c.cl).1 qah)) (a+(Go.Lib.cut (t.drop a) c.op).1.length)).1≠0
 ·rw[if_pos h3]at hs;injection hs with e _;rw[<-e];exact h3
 ·rw[if_neg h3]at hs;cases hs
theorem qx8{d:Ct}(hs:c.step t a=.over d):d=c.addText t a t.length:=by
 unfold Ct.step at hs;by_cases h1:(Go.Lib.cut (t.drop a) c.op).2.2=false
 ·rw[if_pos h1]at hs;injection hs with e;exact e.symm
 rw[if_neg h1]at hs;simp only at hs;by_cases h2:(Go.Lib.cut (Go.Lib.cut (t.drop a) c.op).2.1 c.cl).2.2=false
 ·rw[if_pos h2]at hs;cases hs
 rw[if_neg h2]at hs;generalize hO:(if(qa9 _).kind≠2 then _ else _:Nat×Nat)=o at hs;by_cases h3:((c.addText t a o.1).take (qa9 (Go.Lib.trimS (Go.Lib.cut (Go.Lib.cut (t.drop a) c.op).2.1 c.cl).1 qah)) (a+(Go.Lib.cut (t.drop a) c.op).1.length)).1≠0
 ·rw[if_pos h3]at hs;cases hs
 ·rw[if_neg h3]at hs;cases hs
theorem q91(t:List UInt8):∀(n:Nat) (c:Ct) (a:Nat),CtOk t c a->t.length - a<n->(Ct.go t n c a).1.1=0->Wf 0 (Ct.go t n c a).2/\(Ct.go t n c a).2.length<=t.length:=by
 intro n
 induction n with
 |zero=>intro c a _ h;omega
 |succ n ih=>
   intro c a hc hn hs;unfold Ct.go at hs |-;cases ha:c.step t a with
   |slip k p=>
     rw[ha]at hs;exact absurd hs (qx7 ha)
   |over d=>
     rw[ha]at hs;simp only at hs |-;have hd:CtOk t d t.length:=by rw[qx8 ha];exact qh6 hc _ _ hc.le (Nat.le_refl _) (Nat.le_refl _)
     refine⟨q40 hd.wf ?_,hd.few⟩;unfold Ct.left at hs;cases hl:d.opened.getLast? with
     |none=>rfl
     |some m=>rw[hl]at hs;cases hs
   |next d b=>
     rw[ha]at hs;obtain⟨h1,h2⟩:=qga hc ha;have:=h1.le;exact ih d b h1 (by omega) hs
theorem qpj(t:List UInt8)(h:(qam t).1.1=0):Wf 0 (qam t).2/\(qam t).2.length<=t.length:=by
 unfold qam at h |-;split at h
 ·cases h
 ·split at h
  ·rename_i h1 h2
   rw[if_neg h1,if_pos h2];exact q91 t _ _ _ (qh4 t) (by omega) h2
  ·rename_i h1 h2;exact absurd h h2
end Go.Proofs.YtfkhljmiehdgmaaGreatDoor.Pl
namespace Go.Proofs.YtfkhljmiehdgmaaGreatDoor
open Go.RowKit
variable{n:List UInt8}
theorem qlx(b:UInt8)(w:World) :
  Calls Tryz.prog 131 #[.int .u8 b.toNat] w fun e w'=>e=.returned (.int .u8 (Pl.qcr b).toNat)/\w=w':=by
 by_cases h1:Pl.qhn b=true
 ·have H:Hid ((Pl.qcr b).toNat=(b.toNat:Int)+32):=by
   show _=_;unfold Pl.qcr;rw[if_pos h1];simp only[Pl.qhn,Bool.and_eq_true,decide_eq_true_eq]at h1;exact add8 b h1.2
  have hb:b.toNat<=90:=by simp only[Pl.qhn,Bool.and_eq_true,decide_eq_true_eq]at h1;exact h1.2
  have hw:IntKind.u8.wrap ((b.toNat:Int)+32)=(b.toNat:Int)+32:=by rw[IntKind.wrap_u8];omega
  go_enter Tryz.func131,Tryz.ntmps131
  go_wp2_with (go_at_call 181;refine(qn9 b _).mono ?_;rintro e w' ⟨rfl,rfl⟩)
  go_ret
  exact⟨qan (by rw[H.out]),rfl⟩
 ·have h1:Pl.qhn b=false:=Bool.eq_false_iff.2 h1
  have H:Hid (Pl.qcr b=b):=by show _=_;unfold Pl.qcr;rw[h1];rfl
  go_enter Tryz.func131,Tryz.ntmps131
  go_wp2_with (go_at_call 181;refine(qn9 b _).mono ?_;rintro e w' ⟨rfl,rfl⟩)
  go_ret
  exact⟨qan (by rw[H.out]),rfl⟩
theorem q59(x:UInt8)(w:World):(convert 82 9 (.slice (some ⟨w.heap.size,0,none⟩) 1 1)).run Tryz.prog (w.alloc (.cells #[.int .u8 x.toNat] 5))=.ok (.string ⟨#[x]⟩) (w.alloc (.cells #[.int .u8 x.toNat] 5)):=by
 refine run_convert_bytes_back _ 82 9 5 ⟨w.heap.size,0,none⟩ 1 [x] Tryz.underlying82 Tryz.underlying5 Tryz.underlying9 ?_;intro j hj
 match j,hj with
 |0,_=>simp[Addr.add]
theorem qxk(n:List UInt8)(b:UInt8)(w:World)(h9:n.length=9) :
  Calls Tryz.prog 135 #[.string ⟨n.toArray⟩,.int .u8 b.toNat] w fun e w'=>e=.returned (.string ⟨(Pl.qc4 n b).toArray⟩)/\w=w':=by
 have hz:(ByteArray.mk n.toArray).size=n.length:=by simp[ByteArray.size]
 have H:Hid (Pl.qc4 n b=n):=by show _=_;unfold Pl.qc4;rw[if_pos h9]
 go_enter Tryz.func135,Tryz.ntmps135
 go_wp2
 go_ret
 exact⟨qdd (by rw[H.out]),rfl⟩
theorem qxj(n:List UInt8)(b:UInt8)(w:World)(hn:n.length<=9)(h9:¬n.length=9) :
  Calls Tryz.prog 135 #[.string ⟨n.toArray⟩,.int .u8 b.toNat] w fun e w'=>e=.returned (.string ⟨(Pl.qc4 n b).toArray⟩)/\w.alloc (.cells #[.int .u8 (Pl.qcr b).toNat] 5)=w':=by
 have hz:(ByteArray.mk n.toArray).size=n.length:=by simp[ByteArray.size]
 have H:Hid (Pl.qc4 n b=n++[Pl.qcr b]):=by show _=_;unfold Pl.qc4;rw[if_neg h9]
 have ha:=q59 (Pl.qcr b) w;go_enter Tryz.func135,Tryz.ntmps135
 go_wp2_with (go_at_call 131;refine(qlx b _).mono ?_;rintro e w' ⟨rfl,rfl⟩)
 go_ret
 exact⟨qdd (by rw[H.out];apply ByteArray.ext;simp),rfl⟩
theorem qgo{l:List UInt8}(h:(l==n)=true)(hl:l=Pl.qd3\/l=Pl.qgp\/l=Pl.qct\/l=Pl.qcw):Pl.qax n=n:=by
 rw[beq_iff_eq]at h;subst h;unfold Pl.qax;rw[if_pos hl]
theorem qve(h1:(Pl.qd3==n)=false)(h2:(Pl.qgp==n)=false)(h3:(Pl.qct==n)=false)(h4:(Pl.qcw==n)=false):Pl.qax n=[]:=by
 rw[beq_eq_false_iff_ne]at h1 h2 h3 h4;unfold Pl.qax;rw[if_neg];rintro(e|e|e|e)
 ·exact h1 e.symm
 ·exact h2 e.symm
 ·exact h3 e.symm
 ·exact h4 e.symm
theorem qs6(n:List UInt8)(w:World)(ht:PTabs w) :
  Calls Tryz.prog 185 #[.string ⟨n.toArray⟩] w fun e w'=>e=.returned (.string ⟨(Pl.qax n).toArray⟩)/\w=w':=by
 have c0:=(qex ht.el 0 _ rfl).1;have c1:=(qex ht.el 1 _ rfl).1;have c2:=(qex ht.el 2 _ rfl).1;have c3:=(qex ht.el 3 _ rfl).1;simp only[bs,Pl.qd3,Pl.qgp,Pl.qct,Pl.qcw,Nat.mul_zero,Nat.reduceMul]at c0 c1 c2 c3;clear ht;go_enter Tryz.func185,Tryz.ntmps185
 go_wp2
 go_loop [3,4] (fun _ i=>∃k:Nat,k<=4/\i=.int .i64 k/\(1<=k->(Pl.qd3==n)=false)/\(2<=k->(Pl.qgp==n)=false)/\(3<=k->(Pl.qct==n)=false)/\(4<=k->(Pl.qcw==n)=false)) (fun _ i=>4 - (intOf i).toNat)
 case atStart=>exact⟨0,by omega,rfl,by omega,by omega,by omega,by omega⟩
 case round=>
  obtain⟨k,hk,rfl,h1,h2,h3,h4⟩:=hrel;have H1:Hid (1<=k->(Pl.qd3==n)=false):=h1;have H2:Hid (2<=k->(Pl.qgp==n)=false):=h2;have H3:Hid (3<=k->(Pl.qct==n)=false):=h3;have H4:Hid (4<=k->(Pl.qcw==n)=false):=h4;clear h1 h2 h3 h4;rcases(show k=0\/k=1\/k=2\/k=3\/k=4 by omega)with rfl|rfl|rfl|rfl|rfl
  ·by_cases hq:([116,105,116,108,101]==n)=true
   ·have HV:Hid (Pl.qax n=n):=qgo hq (.inl rfl)
    go_wp2
    go_ret
    exact⟨qdd (by rw[HV.out]),rfl⟩
   ·have hq:=Bool.eq_false_iff.2 hq
    have HQ:Hid ((Pl.qd3==n)=false):=hq;go_wp2
    go_round
    case rel=>exact⟨1,by omega,rfl,fun _=>HQ.out,by omega,by omega,by omega⟩
    case measure=>simp[intOf]
  ·by_cases hq:([116,101,120,116,97,114,101,97]==n)=true
   ·have HV:Hid (Pl.qax n=n):=qgo hq (.inr (.inl rfl))
    go_wp2
    go_ret
    exact⟨qdd (by rw[HV.out]),rfl⟩
   ·have hq:=Bool.eq_false_iff.2 hq
    have HQ:Hid ((Pl.qgp==n)=false):=hq;go_wp2
    go_round
    case rel=>exact⟨2,by omega,rfl,fun _=>H1.out (by omega),fun _=>HQ.out,by omega,by omega⟩
    case measure=>simp[intOf]
  ·by_cases hq:([115,99,114,105,112,116]==n)=true
   ·have HV:Hid (Pl.qax n=n):=qgo hq (.inr (.inr (.inl rfl)))
    go_wp2
    go_ret
    exact⟨qdd (by rw[HV.out]),rfl⟩
   ·have hq:=Bool.eq_false_iff.2 hq
    have HQ:Hid ((Pl.qct==n)=false):=hq;go_wp2
    go_round
    case rel=>exact⟨3,by omega,rfl,fun _=>H1.out (by omega),fun _=>H2.out (by omega),fun _=>HQ.out,by omega⟩
    case measure=>simp[intOf]
  ·by_cases hq:([115,116,121,108,101]==n)=true
   ·have HV:Hid (Pl.qax n=n):=qgo hq (.inr (.inr (.inr rfl)))
    go_wp2
    go_ret
    exact⟨qdd (by rw[HV.out]),rfl⟩
   ·have hq:=Bool.eq_false_iff.2 hq
    have HQ:Hid ((Pl.qcw==n)=false):=hq;go_wp2
    go_round
    case rel=>exact⟨4,by omega,rfl,fun _=>H1.out (by omega),fun _=>H2.out (by omega),fun _=>H3.out (by omega),fun _=>HQ.out⟩
    case measure=>simp[intOf]
  ·have HV:Hid (Pl.qax n=[]):=qve (H1.out (by omega)) (H2.out (by omega)) (H3.out (by omega)) (H4.out (by omega))
   go_wp2
   go_ret
   exact⟨qdd (by rw[HV.out]),rfl⟩
theorem qwd(h:(Pl.qd3==n)=true):Pl.qcg n=⟨19,[],n,0,0,false⟩:=by
 rw[beq_iff_eq]at h;subst h;rfl
theorem qwc(h:(Pl.qgp==n)=true):Pl.qcg n=⟨19,[],n,0,0,false⟩:=by
 rw[beq_iff_eq]at h;subst h;rfl
theorem qwb(h:(Pl.qct==n)=true):Pl.qcg n=⟨20,[],n,0,0,false⟩:=by
 rw[beq_iff_eq]at h;subst h;rfl
theorem qwa(h:(Pl.qcw==n)=true):Pl.qcg n=⟨28,[],n,0,0,false⟩:=by
 rw[beq_iff_eq]at h;subst h;rfl
theorem q2b(h1:(Pl.qd3==n)=false)(h2:(Pl.qgp==n)=false)(h3:(Pl.qct==n)=false)(h4:(Pl.qcw==n)=false):Pl.qcg n=⟨1,[],[],0,0,false⟩:=by
 rw[beq_eq_false_iff_ne]at h1 h2 h3 h4;have:Pl.qaw n=1:=by unfold Pl.qaw;rw[if_neg (Ne.symm h1),if_neg (Ne.symm h2),if_neg (Ne.symm h3),if_neg (Ne.symm h4)]
 unfold Pl.qcg;rw[if_pos this]
def qaf(x:Pl.Sx):Array Value:=#[.int .u8 (x.st.mode:Int),bs x.st.name,bs x.st.elem,.int .i64 x.st.kind,.int .i64 (x.st.read:Int),.bool x.ma.ref,.bool x.st.esc,.int .i64 x.ma.hex,.int .i64 x.ma.pct,.int .i64 x.ma.far]
def qap(x:Pl.Sx):Value:=.agg (qaf x)
def qgc(k:Pl.Mk)(esc:Bool):Array Value:=#[.bool k.ref,.bool esc,.int .i64 k.hex,.int .i64 k.pct,.int .i64 k.far]
def qsn(k:Pl.Mk)(esc:Bool):Value:=.agg (qgc k esc)
theorem qz4(n:List UInt8)(w:World)(ht:PTabs w) :
  Calls Tryz.prog 136 #[.string ⟨n.toArray⟩] w fun e w'=>e=.returned (qap ⟨Pl.qcg n,Pl.Mk.none⟩)/\w.alloc (.cells (qaf ⟨Pl.qcg n,Pl.Mk.none⟩) 162)=w':=by
 have ha:=fun o=>ht.kept ((Below.refl _ w).alloc (Nat.le_refl _) o);have c0:=fun o=>(qex (ha o).el 0 _ rfl).1;have c1:=fun o=>(qex (ha o).el 1 _ rfl).1;have c2:=fun o=>(qex (ha o).el 2 _ rfl).1;have c3:=fun o=>(qex (ha o).el 3 _ rfl).1;have d0:=fun o=>(qex (ha o).el 0 _ rfl).2;have d1:=fun o=>(qex (ha o).el 1 _ rfl).2;have d2:=fun o=>(qex (ha o).el 2 _ rfl).2;have d3:=fun o=>(qex (ha o).el 3 _ rfl).2;simp only[bs,Pl.qd3,Pl.qgp,Pl.qct,Pl.qcw,Nat.mul_zero,Nat.reduceMul,Nat.reduceAdd]at c0 c1 c2 c3 d0 d1 d2 d3;clear ht ha;go_enter Tryz.func136,Tryz.ntmps136
 go_wp2
 go_loop [3,4] (fun _ i=>∃k:Nat,k<=4/\i=.int .i64 k/\(1<=k->(Pl.qd3==n)=false)/\(2<=k->(Pl.qgp==n)=false)/\(3<=k->(Pl.qct==n)=false)/\(4<=k->(Pl.qcw==n)=false)) (fun _ i=>4 - (intOf i).toNat)
 case atStart=>exact⟨0,by omega,rfl,by omega,by omega,by omega,by omega⟩
 case round=>
  obtain⟨k,hk,rfl,h1,h2,h3,h4⟩:=hrel;have H1:Hid (1<=k->(Pl.qd3==n)=false):=h1;have H2:Hid (2<=k->(Pl.qgp==n)=false):=h2;have H3:Hid (3<=k->(Pl.qct==n)=false):=h3;have H4:Hid (4<=k->(Pl.qcw==n)=false):=h4;clear h1 h2 h3 h4;rcases(show k=0\/k=1\/k=2\/k=3\/k=4 by omega)with rfl|rfl|rfl|rfl|rfl
  ·by_cases hq:([116,105,116,108,101]==n)=true
   ·have HV:Hid (Pl.qcg n=⟨19,[],n,0,0,false⟩):=qwd hq
    go_wp2
    refine qb4 Tryz.results136 w.heap.size _ _ Tryz.underlying162 rfl rfl (heap_alloc_new _ _) (by kernel_rfl) rfl ?_;exact⟨congrArg Ending.returned (by rw[HV.out];rfl),by rw[HV.out];rfl⟩
   ·have hq:=Bool.eq_false_iff.2 hq
    have HQ:Hid ((Pl.qd3==n)=false):=hq;go_wp2
    go_round
    case rel=>exact⟨1,by omega,rfl,fun _=>HQ.out,by omega,by omega,by omega⟩
    case measure=>simp[intOf]
  ·by_cases hq:([116,101,120,116,97,114,101,97]==n)=true
   ·have HV:Hid (Pl.qcg n=⟨19,[],n,0,0,false⟩):=qwc hq
    go_wp2
    refine qb4 Tryz.results136 w.heap.size _ _ Tryz.underlying162 rfl rfl (heap_alloc_new _ _) (by kernel_rfl) rfl ?_;exact⟨congrArg Ending.returned (by rw[HV.out];rfl),by rw[HV.out];rfl⟩
   ·have hq:=Bool.eq_false_iff.2 hq
    have HQ:Hid ((Pl.qgp==n)=false):=hq;go_wp2
    go_round
    case rel=>exact⟨2,by omega,rfl,fun _=>H1.out (by omega),fun _=>HQ.out,by omega,by omega⟩
    case measure=>simp[intOf]
  ·by_cases hq:([115,99,114,105,112,116]==n)=true
   ·have HV:Hid (Pl.qcg n=⟨20,[],n,0,0,false⟩):=qwb hq
    go_wp2
    refine qb4 Tryz.results136 w.heap.size _ _ Tryz.underlying162 rfl rfl (heap_alloc_new _ _) (by kernel_rfl) rfl ?_;exact⟨congrArg Ending.returned (by rw[HV.out];rfl),by rw[HV.out];rfl⟩
   ·have hq:=Bool.eq_false_iff.2 hq
    have HQ:Hid ((Pl.qct==n)=false):=hq;go_wp2
    go_round
    case rel=>exact⟨3,by omega,rfl,fun _=>H1.out (by omega),fun _=>H2.out (by omega),fun _=>HQ.out,by omega⟩
    case measure=>simp[intOf]
  ·by_cases hq:([115,116,121,108,101]==n)=true
   ·have HV:Hid (Pl.qcg n=⟨28,[],n,0,0,false⟩):=qwa hq
    go_wp2
    refine qb4 Tryz.results136 w.heap.size _ _ Tryz.underlying162 rfl rfl (heap_alloc_new _ _) (by kernel_rfl) rfl ?_;exact⟨congrArg Ending.returned (by rw[HV.out];rfl),by rw[HV.out];rfl⟩
   ·have hq:=Bool.eq_false_iff.2 hq
    have HQ:Hid ((Pl.qcw==n)=false):=hq;go_wp2
    go_round
    case rel=>exact⟨4,by omega,rfl,fun _=>H1.out (by omega),fun _=>H2.out (by omega),fun _=>H3.out (by omega),fun _=>HQ.out⟩
    case measure=>simp[intOf]
  ·have HV:Hid (Pl.qcg n=⟨1,[],[],0,0,false⟩):=q2b (H1.out (by omega)) (H2.out (by omega)) (H3.out (by omega)) (H4.out (by omega))
   go_wp2
   refine qb4 Tryz.results136 w.heap.size _ _ Tryz.underlying162 rfl rfl (heap_alloc_new _ _) (by kernel_rfl) rfl ?_;exact⟨congrArg Ending.returned (by rw[HV.out];rfl),by rw[HV.out];rfl⟩
end Go.Proofs.YtfkhljmiehdgmaaGreatDoor
namespace Go.Proofs
open Go.Shelf
def Tryz.lays161_ren:Go.Shelf.Ren:=⟨fun|161=>196|231=>197|227=>199|233=>200|235=>202|228=>231|197=>232|151=>233|260=>243|152=>244|137=>130|119=>253|224=>239|225=>238|217=>180|266=>220|n=>n,fun|9=>9|4=>4|3=>3|5=>5|117=>306|116=>305|0=>0|124=>309|105=>336|21=>21|119=>354|46=>302|139=>357|138=>356|n=>n,fun|3=>12|4=>13|n=>n⟩
theorem Tryz.lays161:Go.Proofs.Lays.n161 Tryz.prog Tryz.lays161_ren:={
 mixed:=by kernel_rfl
 f119:=Tryz.func253.trans (congrArg some (by kernel_rfl))
 f137:=Tryz.func130.trans (congrArg some (by kernel_rfl))
 f151:=Tryz.func233.trans (congrArg some (by kernel_rfl))
 f152:=Tryz.func244.trans (congrArg some (by kernel_rfl))
 f161:=Tryz.func196.trans (congrArg some (by kernel_rfl))
 f197:=Tryz.func232.trans (congrArg some (by kernel_rfl))
 f217:=Tryz.func180.trans (congrArg some (by kernel_rfl))
 f224:=Tryz.func239.trans (congrArg some (by kernel_rfl))
 f225:=Tryz.func238.trans (congrArg some (by kernel_rfl))
 f227:=Tryz.func199.trans (congrArg some (by kernel_rfl))
 f228:=Tryz.func231.trans (congrArg some (by kernel_rfl))
 f231:=Tryz.func197.trans (congrArg some (by kernel_rfl))
 f233:=Tryz.func200.trans (congrArg some (by kernel_rfl))
 f235:=Tryz.func202.trans (congrArg some (by kernel_rfl))
 f260:=Tryz.func243.trans (congrArg some (by kernel_rfl))
 f266:=Tryz.func220.trans (congrArg some (by kernel_rfl))
 t0:=Tryz.underlying0
 a0:=Tryz.isAgg0
 z0:=Tryz.sizeOf0
 v0:=Tryz.zeroValue0
 t3:=Tryz.underlying3
 a3:=Tryz.isAgg3
 z3:=Tryz.sizeOf3
 v3:=Tryz.zeroValue3
 t4:=Tryz.underlying4
 a4:=Tryz.isAgg4
 z4:=Tryz.sizeOf4
 v4:=Tryz.zeroValue4
 t5:=Tryz.underlying5
 a5:=Tryz.isAgg5
 z5:=Tryz.sizeOf5
 v5:=Tryz.zeroValue5
 t9:=Tryz.underlying9
 a9:=Tryz.isAgg9
 z9:=Tryz.sizeOf9
 v9:=Tryz.zeroValue9
 t21:=Tryz.underlying21
 a21:=Tryz.isAgg21
 z21:=Tryz.sizeOf21
 v21:=Tryz.zeroValue21
 t46:=Tryz.underlying302
 a46:=Tryz.isAgg302
 z46:=Tryz.sizeOf302
 v46:=Tryz.zeroValue302
 t105:=Tryz.underlying336
 a105:=Tryz.isAgg336
 z105:=Tryz.sizeOf336
 v105:=Tryz.zeroValue336
 t116:=Tryz.underlying305
 a116:=Tryz.isAgg305
 z116:=Tryz.sizeOf305
 t117:=Tryz.underlying306
 a117:=Tryz.isAgg306
 z117:=Tryz.sizeOf306
 v117:=Tryz.zeroValue306
 t119:=Tryz.underlying354
 a119:=Tryz.isAgg354
 z119:=Tryz.sizeOf354
 t124:=Tryz.underlying309
 a124:=Tryz.isAgg309
 z124:=Tryz.sizeOf309
 v124:=Tryz.zeroValue309
 t138:=Tryz.underlying356
 a138:=Tryz.isAgg356
 z138:=Tryz.sizeOf356
 v138:=Tryz.zeroValue356
 t139:=Tryz.underlying357
 a139:=Tryz.isAgg357
 z139:=Tryz.sizeOf357
 v139:=Tryz.zeroValue357
 g3:=by kernel_rfl
 g4:=by kernel_rfl }
def Tryz.lays162_ren:Go.Shelf.Ren:=⟨fun|162=>204|232=>198|227=>199|234=>201|236=>203|228=>231|271=>234|151=>233|120=>245|197=>232|152=>244|260=>243|137=>130|119=>253|224=>239|225=>238|217=>180|266=>220|n=>n,fun|9=>9|4=>4|3=>3|5=>5|117=>306|116=>305|0=>0|124=>309|21=>21|105=>336|46=>302|119=>354|139=>357|138=>356|n=>n,fun|3=>12|4=>13|n=>n⟩
theorem Tryz.lays162:Go.Proofs.Lays.n162 Tryz.prog Tryz.lays162_ren:={
 mixed:=by kernel_rfl
 f119:=Tryz.func253.trans (congrArg some (by kernel_rfl))
 f120:=Tryz.func245.trans (congrArg some (by kernel_rfl))
 f137:=Tryz.func130.trans (congrArg some (by kernel_rfl))
 f151:=Tryz.func233.trans (congrArg some (by kernel_rfl))
 f152:=Tryz.func244.trans (congrArg some (by kernel_rfl))
 f162:=Tryz.func204.trans (congrArg some (by kernel_rfl))
 f197:=Tryz.func232.trans (congrArg some (by kernel_rfl))
 f217:=Tryz.func180.trans (congrArg some (by kernel_rfl))
 f224:=Tryz.func239.trans (congrArg some (by kernel_rfl))
 f225:=Tryz.func238.trans (congrArg some (by kernel_rfl))
 f227:=Tryz.func199.trans (congrArg some (by kernel_rfl))
 f228:=Tryz.func231.trans (congrArg some (by kernel_rfl))
 f232:=Tryz.func198.trans (congrArg some (by kernel_rfl))
 f234:=Tryz.func201.trans (congrArg some (by kernel_rfl))
 f236:=Tryz.func203.trans (congrArg some (by kernel_rfl))
 f260:=Tryz.func243.trans (congrArg some (by kernel_rfl))
 f266:=Tryz.func220.trans (congrArg some (by kernel_rfl))
 f271:=Tryz.func234.trans (congrArg some (by kernel_rfl))
 t0:=Tryz.underlying0
 a0:=Tryz.isAgg0
 z0:=Tryz.sizeOf0
 v0:=Tryz.zeroValue0
 t3:=Tryz.underlying3
 a3:=Tryz.isAgg3
 z3:=Tryz.sizeOf3
 v3:=Tryz.zeroValue3
 t4:=Tryz.underlying4
 a4:=Tryz.isAgg4
 z4:=Tryz.sizeOf4
 v4:=Tryz.zeroValue4
 t5:=Tryz.underlying5
 a5:=Tryz.isAgg5
 z5:=Tryz.sizeOf5
 v5:=Tryz.zeroValue5
 t9:=Tryz.underlying9
 a9:=Tryz.isAgg9
 z9:=Tryz.sizeOf9
 v9:=Tryz.zeroValue9
 t21:=Tryz.underlying21
 a21:=Tryz.isAgg21
 z21:=Tryz.sizeOf21
 v21:=Tryz.zeroValue21
 t46:=Tryz.underlying302
 a46:=Tryz.isAgg302
 z46:=Tryz.sizeOf302
 v46:=Tryz.zeroValue302
 t105:=Tryz.underlying336
 a105:=Tryz.isAgg336
 z105:=Tryz.sizeOf336
 v105:=Tryz.zeroValue336
 t116:=Tryz.underlying305
 a116:=Tryz.isAgg305
 z116:=Tryz.sizeOf305
 t117:=Tryz.underlying306
 a117:=Tryz.isAgg306
 z117:=Tryz.sizeOf306
 v117:=Tryz.zeroValue306
 t119:=Tryz.underlying354
 a119:=Tryz.isAgg354
 z119:=Tryz.sizeOf354
 t124:=Tryz.underlying309
 a124:=Tryz.isAgg309
 z124:=Tryz.sizeOf309
 v124:=Tryz.zeroValue309
 t138:=Tryz.underlying356
 a138:=Tryz.isAgg356
 z138:=Tryz.sizeOf356
 v138:=Tryz.zeroValue356
 t139:=Tryz.underlying357
 a139:=Tryz.isAgg357
 z139:=Tryz.sizeOf357
 v139:=Tryz.zeroValue357
 g3:=by kernel_rfl
 g4:=by kernel_rfl }
def Tryz.lays160_ren:Go.Shelf.Ren:=⟨fun|160=>150|232=>198|231=>197|227=>199|234=>201|233=>200|236=>203|235=>202|228=>231|271=>234|151=>233|197=>232|120=>245|152=>244|260=>243|137=>130|119=>253|224=>239|225=>238|217=>180|266=>220|n=>n,fun|9=>9|4=>4|3=>3|5=>5|117=>306|116=>305|0=>0|124=>309|21=>21|105=>336|46=>302|119=>354|139=>357|138=>356|n=>n,fun|3=>12|4=>13|n=>n⟩
theorem Tryz.lays160:Go.Proofs.Lays.n160 Tryz.prog Tryz.lays160_ren:={
 mixed:=by kernel_rfl
 f119:=Tryz.func253.trans (congrArg some (by kernel_rfl))
 f120:=Tryz.func245.trans (congrArg some (by kernel_rfl))
 f137:=Tryz.func130.trans (congrArg some (by kernel_rfl))
 f151:=Tryz.func233.trans (congrArg some (by kernel_rfl))
 f152:=Tryz.func244.trans (congrArg some (by kernel_rfl))
 f160:=Tryz.func150.trans (congrArg some (by kernel_rfl))
 f197:=Tryz.func232.trans (congrArg some (by kernel_rfl))
 f217:=Tryz.func180.trans (congrArg some (by kernel_rfl))
 f224:=Tryz.func239.trans (congrArg some (by kernel_rfl))
 f225:=Tryz.func238.trans (congrArg some (by kernel_rfl))
 f227:=Tryz.func199.trans (congrArg some (by kernel_rfl))
 f228:=Tryz.func231.trans (congrArg some (by kernel_rfl))
 f231:=Tryz.func197.trans (congrArg some (by kernel_rfl))
 f232:=Tryz.func198.trans (congrArg some (by kernel_rfl))
 f233:=Tryz.func200.trans (congrArg some (by kernel_rfl))
 f234:=Tryz.func201.trans (congrArg some (by kernel_rfl))
 f235:=Tryz.func202.trans (congrArg some (by kernel_rfl))
 f236:=Tryz.func203.trans (congrArg some (by kernel_rfl))
 f260:=Tryz.func243.trans (congrArg some (by kernel_rfl))
 f266:=Tryz.func220.trans (congrArg some (by kernel_rfl))
 f271:=Tryz.func234.trans (congrArg some (by kernel_rfl))
 t0:=Tryz.underlying0
 a0:=Tryz.isAgg0
 z0:=Tryz.sizeOf0
 v0:=Tryz.zeroValue0
 t3:=Tryz.underlying3
 a3:=Tryz.isAgg3
 z3:=Tryz.sizeOf3
 v3:=Tryz.zeroValue3
 t4:=Tryz.underlying4
 a4:=Tryz.isAgg4
 z4:=Tryz.sizeOf4
 v4:=Tryz.zeroValue4
 t5:=Tryz.underlying5
 a5:=Tryz.isAgg5
 z5:=Tryz.sizeOf5
 v5:=Tryz.zeroValue5
 t9:=Tryz.underlying9
 a9:=Tryz.isAgg9
 z9:=Tryz.sizeOf9
 v9:=Tryz.zeroValue9
 t21:=Tryz.underlying21
 a21:=Tryz.isAgg21
 z21:=Tryz.sizeOf21
 v21:=Tryz.zeroValue21
 t46:=Tryz.underlying302
 a46:=Tryz.isAgg302
 z46:=Tryz.sizeOf302
 v46:=Tryz.zeroValue302
 t105:=Tryz.underlying336
 a105:=Tryz.isAgg336
 z105:=Tryz.sizeOf336
 v105:=Tryz.zeroValue336
 t116:=Tryz.underlying305
 a116:=Tryz.isAgg305
 z116:=Tryz.sizeOf305
 t117:=Tryz.underlying306
 a117:=Tryz.isAgg306
 z117:=Tryz.sizeOf306
 v117:=Tryz.zeroValue306
 t119:=Tryz.underlying354
 a119:=Tryz.isAgg354
 z119:=Tryz.sizeOf354
 t124:=Tryz.underlying309
 a124:=Tryz.isAgg309
 z124:=Tryz.sizeOf309
 v124:=Tryz.zeroValue309
 t138:=Tryz.underlying356
 a138:=Tryz.isAgg356
 z138:=Tryz.sizeOf356
 v138:=Tryz.zeroValue356
 t139:=Tryz.underlying357
 a139:=Tryz.isAgg357
 z139:=Tryz.sizeOf357
 v139:=Tryz.zeroValue357
 g3:=by kernel_rfl
 g4:=by kernel_rfl }
def Tryz.lays119_ren:Go.Shelf.Ren:=⟨fun|119=>253|n=>n,fun|21=>21|4=>4|n=>n,fun|n=>n⟩
theorem Tryz.lays119:Go.Proofs.Lays.n119 Tryz.prog Tryz.lays119_ren:={
 mixed:=by kernel_rfl
 f119:=Tryz.func253.trans (congrArg some (by kernel_rfl))
 t4:=Tryz.underlying4
 a4:=Tryz.isAgg4
 z4:=Tryz.sizeOf4
 v4:=Tryz.zeroValue4
 t21:=Tryz.underlying21
 a21:=Tryz.isAgg21
 z21:=Tryz.sizeOf21
 v21:=Tryz.zeroValue21 }
theorem Tryz.utf8_ValidRune(r:Int)(w:World) :
  Calls Tryz.prog 253 #[.int .i32 r] w fun e w'=>e=.returned (.bool (Lib.validRune r))/\w'=w:=Any.utf8_ValidRune Tryz.lays119 r w
def Tryz.lays137_ren:Go.Shelf.Ren:=⟨fun|137=>130|217=>180|266=>220|n=>n,fun|9=>9|5=>5|3=>3|n=>n,fun|n=>n⟩
theorem Tryz.lays137:Go.Proofs.Lays.n137 Tryz.prog Tryz.lays137_ren:={
 mixed:=by kernel_rfl
 f137:=Tryz.func130.trans (congrArg some (by kernel_rfl))
 f217:=Tryz.func180.trans (congrArg some (by kernel_rfl))
 f266:=Tryz.func220.trans (congrArg some (by kernel_rfl))
 t3:=Tryz.underlying3
 a3:=Tryz.isAgg3
 z3:=Tryz.sizeOf3
 v3:=Tryz.zeroValue3
 t5:=Tryz.underlying5
 a5:=Tryz.isAgg5
 z5:=Tryz.sizeOf5
 v5:=Tryz.zeroValue5
 t9:=Tryz.underlying9
 a9:=Tryz.isAgg9
 z9:=Tryz.sizeOf9
 v9:=Tryz.zeroValue9 }
open Go.RowKit in
theorem Tryz.strings_IndexByte(s:ByteArray)(c:Int)(w:World) :
  Calls Tryz.prog 130 #[.string s,.int .u8 c] w fun e w'=>e=.returned (.int .i64 (Lib.indexByte s.data.toList c.toNat.toUInt8))/\w'=w:=Any.strings_IndexByte Tryz.lays137 s c w
def Tryz.lays104_ren:Go.Shelf.Ren:=⟨fun|104=>226|211=>241|207=>251|n=>n,fun|9=>9|4=>4|24=>39|3=>3|n=>n,fun|n=>n⟩
theorem Tryz.lays104:Go.Proofs.Lays.n104 Tryz.prog Tryz.lays104_ren:={
 mixed:=by kernel_rfl
 f104:=Tryz.func226.trans (congrArg some (by kernel_rfl))
 f207:=Tryz.func251.trans (congrArg some (by kernel_rfl))
 f211:=Tryz.func241.trans (congrArg some (by kernel_rfl))
 t3:=Tryz.underlying3
 a3:=Tryz.isAgg3
 z3:=Tryz.sizeOf3
 v3:=Tryz.zeroValue3
 t4:=Tryz.underlying4
 a4:=Tryz.isAgg4
 z4:=Tryz.sizeOf4
 v4:=Tryz.zeroValue4
 t9:=Tryz.underlying9
 a9:=Tryz.isAgg9
 z9:=Tryz.sizeOf9
 v9:=Tryz.zeroValue9
 t24:=Tryz.underlying39
 a24:=Tryz.isAgg39
 z24:=Tryz.sizeOf39
 v24:=Tryz.zeroValue39 }
open Go.RowKit in
theorem Tryz.strings_CutSuffix(s p:ByteArray)(w:World)(hs:s.size<=9223372036854775807) :
  Calls Tryz.prog 226 #[.string s,.string p] w fun e w'=>e=.returned (.tuple #[.string ⟨(Lib.trimSuffix s.data.toList p.data.toList).toArray⟩,.bool (Lib.hasSuffix s.data.toList p.data.toList)])/\w'=w:=Any.strings_CutSuffix Tryz.lays104 s p w hs
def Tryz.lays145_ren:Go.Shelf.Ren:=⟨fun|145=>146|220=>192|219=>225|217=>180|225=>238|224=>239|267=>240|266=>220|314=>250|n=>n,fun|9=>9|4=>4|59=>197|3=>3|5=>5|46=>302|146=>351|51=>331|n=>n,fun|1=>11|n=>n⟩
theorem Tryz.lays145:Go.Proofs.Lays.n145 Tryz.prog Tryz.lays145_ren:={
 mixed:=by kernel_rfl
 f145:=Tryz.func146.trans (congrArg some (by kernel_rfl))
 f217:=Tryz.func180.trans (congrArg some (by kernel_rfl))
 f219:=Tryz.func225.trans (congrArg some (by kernel_rfl))
 f220:=Tryz.func192.trans (congrArg some (by kernel_rfl))
 f224:=Tryz.func239.trans (congrArg some (by kernel_rfl))
 f225:=Tryz.func238.trans (congrArg some (by kernel_rfl))
 f266:=Tryz.func220.trans (congrArg some (by kernel_rfl))
 f267:=Tryz.func240.trans (congrArg some (by kernel_rfl))
 f314:=Tryz.func250.trans (congrArg some (by kernel_rfl))
 t3:=Tryz.underlying3
 a3:=Tryz.isAgg3
 z3:=Tryz.sizeOf3
 v3:=Tryz.zeroValue3
 t4:=Tryz.underlying4
 a4:=Tryz.isAgg4
 z4:=Tryz.sizeOf4
 v4:=Tryz.zeroValue4
 t5:=Tryz.underlying5
 a5:=Tryz.isAgg5
 z5:=Tryz.sizeOf5
 v5:=Tryz.zeroValue5
 t9:=Tryz.underlying9
 a9:=Tryz.isAgg9
 z9:=Tryz.sizeOf9
 v9:=Tryz.zeroValue9
 t46:=Tryz.underlying302
 a46:=Tryz.isAgg302
 z46:=Tryz.sizeOf302
 v46:=Tryz.zeroValue302
 t51:=Tryz.underlying331
 a51:=Tryz.isAgg331
 z51:=Tryz.sizeOf331
 v51:=Tryz.zeroValue331
 t59:=Tryz.underlying197
 a59:=Tryz.isAgg197
 z59:=Tryz.sizeOf197
 v59:=Tryz.zeroValue197
 t146:=Tryz.underlying351
 a146:=Tryz.isAgg351
 z146:=Tryz.sizeOf351
 v146:=Tryz.zeroValue351
 g1:=by kernel_rfl }
open Go.RowKit Go.Lib in
theorem Tryz.strings_Cut(s sep:ByteArray)(m:Int)(w:World)(hs:s.size<4294967281)(hm:w.cell? ⟨11,0,none⟩=some (.int .i64 m)) :
  Calls Tryz.prog 146 #[.string s,.string sep] w fun e w'=>e=.returned (.tuple #[.string ⟨(Lib.cut s.data.toList sep.data.toList).1.toArray⟩,.string ⟨(Lib.cut s.data.toList sep.data.toList).2.1.toArray⟩,.bool (Lib.cut s.data.toList sep.data.toList).2.2])/\∃n,w'=w.drewN n:=Any.strings_Cut Tryz.lays145 s sep m w hs hm
def Tryz.lays99_ren:Go.Shelf.Ren:=⟨fun|99=>191|206=>224|n=>n,fun|9=>9|4=>4|3=>3|n=>n,fun|n=>n⟩
theorem Tryz.lays99:Go.Proofs.Lays.n99 Tryz.prog Tryz.lays99_ren:={
 mixed:=by kernel_rfl
 f99:=Tryz.func191.trans (congrArg some (by kernel_rfl))
 f206:=Tryz.func224.trans (congrArg some (by kernel_rfl))
 t3:=Tryz.underlying3
 a3:=Tryz.isAgg3
 z3:=Tryz.sizeOf3
 v3:=Tryz.zeroValue3
 t4:=Tryz.underlying4
 a4:=Tryz.isAgg4
 z4:=Tryz.sizeOf4
 v4:=Tryz.zeroValue4
 t9:=Tryz.underlying9
 a9:=Tryz.isAgg9
 z9:=Tryz.sizeOf9
 v9:=Tryz.zeroValue9 }
open Go.RowKit Go.Lib in
theorem Tryz.strings_HasPrefix(s p:ByteArray)(w:World) :
  Calls Tryz.prog 191 #[.string s,.string p] w fun e w'=>e=.returned (.bool (Lib.hasPrefix s.data.toList p.data.toList))/\w'=w:=Any.strings_HasPrefix Tryz.lays99 s p w
def Tryz.lays101_ren:Go.Shelf.Ren:=⟨fun|101=>205|208=>235|206=>224|n=>n,fun|9=>9|4=>4|3=>3|n=>n,fun|n=>n⟩
theorem Tryz.lays101:Go.Proofs.Lays.n101 Tryz.prog Tryz.lays101_ren:={
 mixed:=by kernel_rfl
 f101:=Tryz.func205.trans (congrArg some (by kernel_rfl))
 f206:=Tryz.func224.trans (congrArg some (by kernel_rfl))
 f208:=Tryz.func235.trans (congrArg some (by kernel_rfl))
 t3:=Tryz.underlying3
 a3:=Tryz.isAgg3
 z3:=Tryz.sizeOf3
 v3:=Tryz.zeroValue3
 t4:=Tryz.underlying4
 a4:=Tryz.isAgg4
 z4:=Tryz.sizeOf4
 v4:=Tryz.zeroValue4
 t9:=Tryz.underlying9
 a9:=Tryz.isAgg9
 z9:=Tryz.sizeOf9
 v9:=Tryz.zeroValue9 }
open Go.RowKit Go.Lib in
theorem Tryz.strings_TrimPrefix(s p:ByteArray)(w:World) :
  Calls Tryz.prog 205 #[.string s,.string p] w fun e w'=>e=.returned (.string ⟨(Lib.trimPrefix s.data.toList p.data.toList).toArray⟩)/\w'=w:=Any.strings_TrimPrefix Tryz.lays101 s p w
def Tryz.lays146_ren:Go.Shelf.Ren:=⟨fun|146=>242|221=>252|268=>259|138=>260|143=>261|195=>264|197=>232|218=>265|219=>225|260=>243|217=>180|225=>238|224=>239|267=>240|266=>220|314=>250|n=>n,fun|9=>9|31=>35|3=>3|4=>4|0=>0|105=>336|21=>21|5=>5|46=>302|119=>354|139=>357|138=>356|146=>351|51=>331|n=>n,fun|1=>11|3=>12|4=>13|n=>n⟩
theorem Tryz.lays146:Go.Proofs.Lays.n146 Tryz.prog Tryz.lays146_ren:={
 mixed:=by kernel_rfl
 f138:=Tryz.func260.trans (congrArg some (by kernel_rfl))
 f143:=Tryz.func261.trans (congrArg some (by kernel_rfl))
 f146:=Tryz.func242.trans (congrArg some (by kernel_rfl))
 f195:=Tryz.func264.trans (congrArg some (by kernel_rfl))
 f197:=Tryz.func232.trans (congrArg some (by kernel_rfl))
 f217:=Tryz.func180.trans (congrArg some (by kernel_rfl))
 f218:=Tryz.func265.trans (congrArg some (by kernel_rfl))
 f219:=Tryz.func225.trans (congrArg some (by kernel_rfl))
 f221:=Tryz.func252.trans (congrArg some (by kernel_rfl))
 f224:=Tryz.func239.trans (congrArg some (by kernel_rfl))
 f225:=Tryz.func238.trans (congrArg some (by kernel_rfl))
 f260:=Tryz.func243.trans (congrArg some (by kernel_rfl))
 f266:=Tryz.func220.trans (congrArg some (by kernel_rfl))
 f267:=Tryz.func240.trans (congrArg some (by kernel_rfl))
 f268:=Tryz.func259.trans (congrArg some (by kernel_rfl))
 f314:=Tryz.func250.trans (congrArg some (by kernel_rfl))
 t0:=Tryz.underlying0
 a0:=Tryz.isAgg0
 z0:=Tryz.sizeOf0
 v0:=Tryz.zeroValue0
 t3:=Tryz.underlying3
 a3:=Tryz.isAgg3
 z3:=Tryz.sizeOf3
 v3:=Tryz.zeroValue3
 t4:=Tryz.underlying4
 a4:=Tryz.isAgg4
 z4:=Tryz.sizeOf4
 v4:=Tryz.zeroValue4
 t5:=Tryz.underlying5
 a5:=Tryz.isAgg5
 z5:=Tryz.sizeOf5
 v5:=Tryz.zeroValue5
 t9:=Tryz.underlying9
 a9:=Tryz.isAgg9
 z9:=Tryz.sizeOf9
 v9:=Tryz.zeroValue9
 t21:=Tryz.underlying21
 a21:=Tryz.isAgg21
 z21:=Tryz.sizeOf21
 v21:=Tryz.zeroValue21
 t31:=Tryz.underlying35
 a31:=Tryz.isAgg35
 z31:=Tryz.sizeOf35
 v31:=Tryz.zeroValue35
 t46:=Tryz.underlying302
 a46:=Tryz.isAgg302
 z46:=Tryz.sizeOf302
 v46:=Tryz.zeroValue302
 t51:=Tryz.underlying331
 a51:=Tryz.isAgg331
 z51:=Tryz.sizeOf331
 v51:=Tryz.zeroValue331
 t105:=Tryz.underlying336
 a105:=Tryz.isAgg336
 z105:=Tryz.sizeOf336
 v105:=Tryz.zeroValue336
 t119:=Tryz.underlying354
 a119:=Tryz.isAgg354
 z119:=Tryz.sizeOf354
 t138:=Tryz.underlying356
 a138:=Tryz.isAgg356
 z138:=Tryz.sizeOf356
 v138:=Tryz.zeroValue356
 t139:=Tryz.underlying357
 a139:=Tryz.isAgg357
 z139:=Tryz.sizeOf357
 v139:=Tryz.zeroValue357
 t146:=Tryz.underlying351
 a146:=Tryz.isAgg351
 z146:=Tryz.sizeOf351
 v146:=Tryz.zeroValue351
 g1:=by kernel_rfl
 g3:=by kernel_rfl
 g4:=by kernel_rfl }
open Go.RowKit Go.Lib in
theorem Tryz.strings_Split(s sep:ByteArray)(m:Int)(w:World)(hs:s.size<4294967281)(hm:w.cell? ⟨11,0,none⟩=some (.int .i64 m))(h1:1<=sep.size) :
  Calls Tryz.prog 242 #[.string s,.string sep] w fun e w'=>
   e=.returned (.slice (some ⟨w.heap.size,0,none⟩) (Lib.countB s sep+1) (Lib.countB s sep+1))/\w'=w.alloc (.cells ((Lib.splitB sep 0 (Lib.countB s sep) s).map Value.string).toArray 9):=Any.strings_Split Tryz.lays146 (by kernel_rfl) s sep m w hs hm h1
def Tryz.lays151_ren:Go.Shelf.Ren:=⟨fun|151=>233|152=>244|137=>130|119=>253|224=>239|225=>238|217=>180|266=>220|n=>n,fun|9=>9|21=>21|4=>4|3=>3|5=>5|0=>0|46=>302|n=>n,fun|n=>n⟩
theorem Tryz.lays151:Go.Proofs.Lays.n151 Tryz.prog Tryz.lays151_ren:={
 mixed:=by kernel_rfl
 f119:=Tryz.func253.trans (congrArg some (by kernel_rfl))
 f137:=Tryz.func130.trans (congrArg some (by kernel_rfl))
 f151:=Tryz.func233.trans (congrArg some (by kernel_rfl))
 f152:=Tryz.func244.trans (congrArg some (by kernel_rfl))
 f217:=Tryz.func180.trans (congrArg some (by kernel_rfl))
 f224:=Tryz.func239.trans (congrArg some (by kernel_rfl))
 f225:=Tryz.func238.trans (congrArg some (by kernel_rfl))
 f266:=Tryz.func220.trans (congrArg some (by kernel_rfl))
 t0:=Tryz.underlying0
 a0:=Tryz.isAgg0
 z0:=Tryz.sizeOf0
 v0:=Tryz.zeroValue0
 t3:=Tryz.underlying3
 a3:=Tryz.isAgg3
 z3:=Tryz.sizeOf3
 v3:=Tryz.zeroValue3
 t4:=Tryz.underlying4
 a4:=Tryz.isAgg4
 z4:=Tryz.sizeOf4
 v4:=Tryz.zeroValue4
 t5:=Tryz.underlying5
 a5:=Tryz.isAgg5
 z5:=Tryz.sizeOf5
 v5:=Tryz.zeroValue5
 t9:=Tryz.underlying9
 a9:=Tryz.isAgg9
 z9:=Tryz.sizeOf9
 v9:=Tryz.zeroValue9
 t21:=Tryz.underlying21
 a21:=Tryz.isAgg21
 z21:=Tryz.sizeOf21
 v21:=Tryz.zeroValue21
 t46:=Tryz.underlying302
 a46:=Tryz.isAgg302
 z46:=Tryz.sizeOf302
 v46:=Tryz.zeroValue302 }
open Go.RowKit Go.Lib in
theorem Tryz.strings_ContainsRune_ascii(s:ByteArray)(r:Int)(w:World)(h0:0<=r)(h1:r<128) :
  Calls Tryz.prog 233 #[.string s,.int .i32 r] w fun e w'=>e=.returned (.bool (decide (0<=Lib.indexByte s.data.toList r.toNat.toUInt8)))/\w'=w:=Any.strings_ContainsRune_ascii Tryz.lays151 s r w h0 h1
def Tryz.lays229_ren:Go.Shelf.Ren:=⟨fun|229=>227|n=>n,fun|9=>9|40=>335|31=>35|152=>340|3=>3|0=>0|4=>4|21=>21|154=>342|n=>n,fun|n=>n⟩
theorem Tryz.lays229:Go.Proofs.Lays.n229 Tryz.prog Tryz.lays229_ren:={
 mixed:=by kernel_rfl
 f229:=Tryz.func227.trans (congrArg some (by kernel_rfl))
 t0:=Tryz.underlying0
 a0:=Tryz.isAgg0
 z0:=Tryz.sizeOf0
 v0:=Tryz.zeroValue0
 t3:=Tryz.underlying3
 a3:=Tryz.isAgg3
 z3:=Tryz.sizeOf3
 v3:=Tryz.zeroValue3
 t4:=Tryz.underlying4
 a4:=Tryz.isAgg4
 z4:=Tryz.sizeOf4
 v4:=Tryz.zeroValue4
 t9:=Tryz.underlying9
 a9:=Tryz.isAgg9
 z9:=Tryz.sizeOf9
 v9:=Tryz.zeroValue9
 t21:=Tryz.underlying21
 a21:=Tryz.isAgg21
 z21:=Tryz.sizeOf21
 v21:=Tryz.zeroValue21
 t31:=Tryz.underlying35
 a31:=Tryz.isAgg35
 z31:=Tryz.sizeOf35
 v31:=Tryz.zeroValue35
 t40:=Tryz.underlying335
 a40:=Tryz.isAgg335
 z40:=Tryz.sizeOf335
 v40:=Tryz.zeroValue335
 t152:=Tryz.underlying340
 a152:=Tryz.isAgg340
 z152:=Tryz.sizeOf340
 v152:=Tryz.zeroValue340
 t154:=Tryz.underlying342
 a154:=Tryz.isAgg342
 z154:=Tryz.sizeOf342
 v154:=Tryz.zeroValue342 }
open Go.RowKit Go.Lib in
theorem Tryz.strings_FieldsFunc_grows(g:Nat)(lb:Array Value)(eg:∀args w,(callFunc g args).run Tryz.prog w=.ok (.enter g args) w)(p:Nat->Bool)(s:ByteArray)(w:World)(hs:s.size<=4294967296)(hp:PredGrows Tryz.prog g lb p w) :
  Calls Tryz.prog 227 #[.string s,.func (.func g) #[] lb] w fun e w'=>∃A,e=.returned (.slice (some ⟨A,0,none⟩) (Lib.goFieldsP p s).length (Lib.goFieldsP p s).length)/\w.heap.size<=A /\
   w'.ownsRow w.heap.size 9 1 (.slice (some ⟨A,0,none⟩) (Lib.goFieldsP p s).length (Lib.goFieldsP p s).length) (Lib.goFieldsP p s).length ((Lib.goFieldsP p s).map Value.string)/\Below w.heap.size w w':=Any.strings_FieldsFunc_grows Tryz.lays229 g lb eg p s w hs hp (by kernel_rfl) (by kernel_rfl)
end Go.Proofs
namespace Go.Proofs.YtfkhljmiehdgmaaGreatDoor.Pl
open Go.Lib (decodeL decodeN)
def bad(l:List UInt8):Bool:=decide ((decodeL l).1=65533) && decide ((decodeL l).2=1)
end Go.Proofs.YtfkhljmiehdgmaaGreatDoor.Pl
namespace Go.Proofs.YtfkhljmiehdgmaaGreatDoor.Pl
theorem qgn:∀(l:List UInt8) (b:UInt8),(0<=Lib.indexByte l b/\among b l=true)\/(Lib.indexByte l b=-1/\among b l=false)
 |[],_=>.inr ⟨rfl,rfl⟩
 |c::l,b=>by
   have ih:=qgn l b;unfold Lib.indexByte;by_cases h:(c==b)=true
   ·left;rw[if_pos h];exact⟨by omega,by simp[among,h]⟩
   ·have hf:(c==b)=false:=by simpa using h
    rw[if_neg h];rcases ih with⟨a,e⟩|⟨a,e⟩
    ·left
     have:(Lib.indexByte l b==-1)=false:=by simp;omega
     rw[if_neg (by rw[this];simp)];exact⟨by omega,by simp only[among,List.any_cons,hf,Bool.false_or]at e |-;exact e⟩
    ·right
     rw[if_pos (by rw[a];rfl)];exact⟨rfl,by simp only[among,List.any_cons,hf,Bool.false_or]at e |-;exact e⟩
theorem qmv(b:UInt8):((b.toNat:Int).toNat.toUInt8)=b:=by simp
end Go.Proofs.YtfkhljmiehdgmaaGreatDoor.Pl
namespace Go.Proofs.YtfkhljmiehdgmaaGreatDoor
open Go.RowKit
theorem qb3(b:UInt8)(all:ByteArray)(l:List UInt8)(w:World)(ha:all.data.toList=l)(h:Pl.among b l=true) :
  Calls Tryz.prog 130 #[.string all,.int .u8 b.toNat] w fun e w'=>∃x:Int,0<=x/\e=.returned (.int .i64 x)/\w=w':=by
 refine(Tryz.strings_IndexByte all b.toNat w).mono ?_;rintro e w' ⟨rfl,rfl⟩;refine⟨_,?_,rfl,rfl⟩;rw[Pl.qmv,ha];rcases Pl.qgn l b with⟨a,_⟩|⟨_,a⟩
 ·exact a
 ·rw[h]at a;cases a
theorem qce(b:UInt8)(all:ByteArray)(l:List UInt8)(w:World)(ha:all.data.toList=l)(h:Pl.among b l=false) :
  Calls Tryz.prog 130 #[.string all,.int .u8 b.toNat] w fun e w'=>e=.returned (.int .i64 (-1))/\w=w':=by
 refine(Tryz.strings_IndexByte all b.toNat w).mono ?_;rintro e w' ⟨rfl,rfl⟩;refine⟨qan ?_,rfl⟩;rw[Pl.qmv,ha];rcases Pl.qgn l b with⟨_,a⟩|⟨a,_⟩
 ·rw[h]at a;cases a
 ·exact a
theorem qy0(s p:ByteArray)(l:List UInt8)(w:World)(hp:p.data.toList=l) :
  Calls Tryz.prog 191 #[.string s,.string p] w fun e w'=>e=.returned (.bool (l.isPrefixOf s.data.toList))/\w=w':=by
 refine(Tryz.strings_HasPrefix s p w).mono ?_;rintro e w' ⟨rfl,rfl⟩;exact⟨qbo (by rw[hp];rfl),rfl⟩
theorem q1f(n:List UInt8)(w:World)(ht:PTabs w) :
  Calls Tryz.prog 186 #[.string ⟨n.toArray⟩] w fun e w'=>e=.returned (.int .i64 (Pl.qcx n))/\w=w':=by
 obtain⟨c0,d0,e0⟩:=qlu ht.at' 0 _ rfl;obtain⟨c1,d1,e1⟩:=qlu ht.at' 1 _ rfl;obtain⟨c2,d2,e2⟩:=qlu ht.at' 2 _ rfl;obtain⟨c3,d3,e3⟩:=qlu ht.at' 3 _ rfl;obtain⟨c4,d4,e4⟩:=qlu ht.at' 4 _ rfl;simp only[bs,Pl.qcw,Nat.mul_zero,Nat.reduceMul,Nat.reduceAdd]at c0 c1 c2 c3 c4 d0 d1 d2 d3 d4 e0 e1 e2 e3 e4;clear ht;go_enter Tryz.func186,Tryz.ntmps186
 go_wp2
 go_loop [3,4] (fun _ i=>∃k:Nat,k<=5/\i=.int .i64 k/\(Pl.qdv.take k).find? (Pl.qbb n)=none) (fun _ i=>5 - (intOf i).toNat)
 case atStart=>exact⟨0,by omega,rfl,rfl⟩
 case round=>
  obtain⟨k,hk,rfl,hn⟩:=hrel;have HN:Hid ((Pl.qdv.take k).find? (Pl.qbb n)=none):=hn;clear hn;rcases(show k=0\/k=1\/k=2\/k=3\/k=4\/k=5 by omega)with rfl|rfl|rfl|rfl|rfl|rfl
  ·by_cases hq:([104,114,101,102]==n)=true
   ·have HV:Hid (Pl.qcx n=1):=Pl.qfx n 0 _ rfl HN.out (by show(([104,114,101,102]==n) || _)=true;rw[hq];rfl)
    go_wp2
    go_ret
    exact⟨qan (by rw[HV.out]),rfl⟩
   ·have hq:=Bool.eq_false_iff.2 hq
    have HV:Hid ((Pl.qdv.take (0+1)).find? (Pl.qbb n)=none):=Pl.qc1 (Pl.qbb n) 0 _ rfl HN.out (by show(([104,114,101,102]==n) || _)=false;rw[hq];rfl);go_wp2
    go_round
    case rel=>exact⟨1,by omega,rfl,HV.out⟩
    case measure=>simp[intOf]
  ·by_cases hq:([115,114,99]==n)=true
   ·have HV:Hid (Pl.qcx n=1):=Pl.qfx n 1 _ rfl HN.out (by show(([115,114,99]==n) || _)=true;rw[hq];rfl)
    go_wp2
    go_ret
    exact⟨qan (by rw[HV.out]),rfl⟩
   ·have hq:=Bool.eq_false_iff.2 hq
    have HV:Hid ((Pl.qdv.take (1+1)).find? (Pl.qbb n)=none):=Pl.qc1 (Pl.qbb n) 1 _ rfl HN.out (by show(([115,114,99]==n) || _)=false;rw[hq];rfl);go_wp2
    go_round
    case rel=>exact⟨2,by omega,rfl,HV.out⟩
    case measure=>simp[intOf]
  ·by_cases hq:([97,99,116,105,111,110]==n)=true
   ·have HV:Hid (Pl.qcx n=1):=Pl.qfx n 2 _ rfl HN.out (by show(([97,99,116,105,111,110]==n) || _)=true;rw[hq];rfl)
    go_wp2
    go_ret
    exact⟨qan (by rw[HV.out]),rfl⟩
   ·have hq:=Bool.eq_false_iff.2 hq
    have HV:Hid ((Pl.qdv.take (2+1)).find? (Pl.qbb n)=none):=Pl.qc1 (Pl.qbb n) 2 _ rfl HN.out (by show(([97,99,116,105,111,110]==n) || _)=false;rw[hq];rfl);go_wp2
    go_round
    case rel=>exact⟨3,by omega,rfl,HV.out⟩
    case measure=>simp[intOf]
  ·by_cases hq:([115,116,121,108,101]==n)=true
   ·have HV:Hid (Pl.qcx n=2):=Pl.qfx n 3 _ rfl HN.out (by show(([115,116,121,108,101]==n) || _)=true;rw[hq];rfl)
    go_wp2
    go_ret
    exact⟨qan (by rw[HV.out]),rfl⟩
   ·have hq:=Bool.eq_false_iff.2 hq
    have HV:Hid ((Pl.qdv.take (3+1)).find? (Pl.qbb n)=none):=Pl.qc1 (Pl.qbb n) 3 _ rfl HN.out (by show(([115,116,121,108,101]==n) || _)=false;rw[hq];rfl);go_wp2
    go_round
    case rel=>exact⟨4,by omega,rfl,HV.out⟩
    case measure=>simp[intOf]
  ·by_cases hq:([111,110]==n)=true
   ·have HV:Hid (Pl.qcx n=2):=Pl.qfx n 4 _ rfl HN.out (by show(([111,110]==n) || _)=true;rw[hq];rfl)
    go_wp2
    go_ret
    exact⟨qan (by rw[HV.out]),rfl⟩
   ·have hq:=Bool.eq_false_iff.2 hq
    by_cases hp:List.isPrefixOf [111,110] n=true
    ·have HV:Hid (Pl.qcx n=2):=Pl.qfx n 4 _ rfl HN.out (by show(([111,110]==n) || (true && List.isPrefixOf [111,110] n))=true;rw[hp];simp)
     go_wp2_with (go_at_call 191;refine(qy0 ⟨n.toArray⟩ _ [111,110] _ rfl).mono ?_;rintro e w' ⟨rfl,rfl⟩)
     go_ret
     exact⟨qan (by rw[HV.out]),rfl⟩
    ·have hp:=Bool.eq_false_iff.2 hp
     have HV:Hid ((Pl.qdv.take (4+1)).find? (Pl.qbb n)=none):=Pl.qc1 (Pl.qbb n) 4 _ rfl HN.out (by show(([111,110]==n) || (true && List.isPrefixOf [111,110] n))=false;rw[hq,hp];rfl);go_wp2_with (go_at_call 191;refine(qy0 ⟨n.toArray⟩ _ [111,110] _ rfl).mono ?_;rintro e w' ⟨rfl,rfl⟩)
     go_round
     case rel=>exact⟨5,by omega,rfl,HV.out⟩
     case measure=>simp[intOf]
  ·have HV:Hid (Pl.qcx n=0):=Pl.qxl n HN.out
   go_wp2
   go_ret
   exact⟨qan (by rw[HV.out]),rfl⟩
end Go.Proofs.YtfkhljmiehdgmaaGreatDoor
