/-
  Steps of the proof.
-/
import Derived.Test.YtfkhljmiehdgmaaGreatDoorCmBG
import Derived.Deep.CutRange
import Derived.Test.YtfkhljmiehdgmaaGreatDoorCmBA
import Derived.Test.YtfkhljmiehdgmaaGreatDoorCmBD
namespace Go.Proofs.YtfkhljmiehdgmaaGreatDoor.Pl
theorem qu4(p:UInt8→Bool):∀l:List UInt8,l.dropWhile p=[]↔∀b∈l,p b=true
 | []=>⟨fun _ b hb=>(by cases hb),fun _=>rfl⟩
 | x::l=>by
   by_cases q:p x=true
   ·rw[List.dropWhile_cons_of_pos q,qu4 p l]
    exact⟨fun h b hb=>(List.mem_cons.1 hb).elim (fun e=>e▸q) (h b),fun h b hb=>h b (List.mem_cons_of_mem _ hb)⟩
   ·rw[List.dropWhile_cons_of_neg q]
    exact⟨fun h=>(by cases h),fun h=>absurd (h x List.mem_cons_self) q⟩
theorem q7d(p:UInt8→Bool):∀l:List UInt8,∀b∈l.takeWhile p,p b=true
 | [],b,hb=>by cases hb
 | x::l,b,hb=>by
   by_cases q:p x=true
   ·rw[List.takeWhile_cons_of_pos q]at hb
    rcases List.mem_cons.1 hb with rfl | hb
    ·exact q
    ·exact q7d p l b hb
   ·rw[List.takeWhile_cons_of_neg q]at hb;cases hb
theorem q19(cs l m:List UInt8):Go.Lib.trimRightS (l++m) cs=if Go.Lib.trimRightS m cs=[] then Go.Lib.trimRightS l cs else l++Go.Lib.trimRightS m cs:=by
 unfold Go.Lib.trimRightS;rw[List.reverse_append,List.dropWhile_append];cases h:m.reverse.dropWhile (cs.contains ·) with
 | nil=>simp
 | cons a t=>simp
theorem q18(cs m:List UInt8):Go.Lib.trimRightS m cs=[]↔∀b∈m,cs.contains b=true:=by
 unfold Go.Lib.trimRightS;rw[List.reverse_eq_nil_iff];constructor
 ·intro h b hb
  have:=(qu4 _ _).1 h b (List.mem_reverse.2 hb);exact this
 ·intro h
  exact(qu4 _ _).2 (fun b hb=>h b (List.mem_reverse.1 hb))
theorem q48(cs m:List UInt8)(h:Go.Lib.trimRightS m cs≠[]):∃b∈m,cs.contains b=false∧(Go.Lib.trimRightS m cs).getLast?=some b:=by
 unfold Go.Lib.trimRightS at h ⊢;cases hd:m.reverse.dropWhile (cs.contains ·) with
 | nil=>rw[hd]at h;exact absurd rfl h
 | cons b t=>
   refine⟨b,?_,?_,by simp⟩
   ·have:b∈m.reverse.dropWhile (cs.contains ·):=by rw[hd];exact List.mem_cons_self
    exact List.mem_reverse.1 ((List.dropWhile_sublist _).subset this)
   ·have:=List.head?_dropWhile_not (cs.contains ·) m.reverse
    rw[hd]at this;simpa using this
theorem q7v(cs l m:List UInt8)(h:∀b∈l,cs.contains b=true):Go.Lib.trimLeftS (l++m) cs=Go.Lib.trimLeftS m cs:=by
 unfold Go.Lib.trimLeftS;rw[List.dropWhile_append,(qu4 _ _).2 h];rfl
theorem q49(cs l m:List UInt8)(h:¬ ∀b∈l,cs.contains b=true):∃b∈l,(Go.Lib.trimLeftS (l++m) cs).head?=some b:=by
 unfold Go.Lib.trimLeftS;rw[List.dropWhile_append];cases hd:l.dropWhile (cs.contains ·) with
 | nil=>exact absurd ((qu4 _ _).1 hd) h
 | cons b t=>
   refine⟨b,?_,by simp⟩;have:b∈l.dropWhile (cs.contains ·):=by rw[hd];exact List.mem_cons_self
   exact(List.dropWhile_sublist _).subset this
theorem qua(t:List UInt8):∀a,a≤t.length→(∀b∈(t.drop (lnF t a)).take (a - lnF t a),b≠10)∧(lnF t a=0∨∃l,t.take (lnF t a)=l++[10])
 | 0,_=>⟨fun b hb=>by simp[lnF]at hb,.inl rfl⟩
 | a+1,h=>by
   unfold lnF;split
   ·next q=>
    refine⟨fun b hb=>(by rw[Nat.sub_self]at hb;cases hb),.inr ⟨t.take a,?_⟩⟩;obtain⟨h1,h2⟩:=List.getElem?_eq_some_iff.1 q;rw[List.take_succ_eq_append_getElem h1,h2]
   ·next q=>
    obtain⟨h1,h2⟩:=qua t a (by omega);have ha:=qyv t a;refine⟨fun b hb=>?_,h2⟩;rw[show a+1 - lnF t a=(a - lnF t a)+1 by omega,List.take_succ_eq_append_getElem (by rw[List.length_drop];omega)]at hb;rcases List.mem_append.1 hb with hb | hb
    ·exact h1 b hb
    ·rw[List.mem_singleton.1 hb,List.getElem_drop]
     intro e;apply q;rw[←e,List.getElem?_eq_getElem (by omega)]
     congr 2;omega
theorem q3l(b:UInt8)(h:b≠10):qdm.contains b=among b qah:=by
 have:∀n∈List.range 256,UInt8.ofNat n≠10→qdm.contains (UInt8.ofNat n)=among (UInt8.ofNat n) qah:=by decide +kernel
 have:=this b.toNat (List.mem_range.2 b.toNat_lt);rw[UInt8.ofNat_toNat]at this;exact this h
theorem qnv{m:List UInt8}(h:∀b∈m,b≠10):(∀b∈m,qdm.contains b=true)↔m.all (fun x=>among x qah)=true:=by
 rw[List.all_eq_true];exact⟨fun q b hb=>by rw[←q3l b (h b hb)];exact q b hb,fun q b hb=>by rw[q3l b (h b hb)];exact q b hb⟩
theorem q67(t:List UInt8)(a:Nat)(ha:a≤t.length):((Go.Lib.trimRightS (t.take a) qdm).getLast?.any (·!= 10)=!(emp t (lnF t a) a))∧(emp t (lnF t a) a=true→(Go.Lib.trimRightS (t.take a) qdm).length=lnF t a):=by
 obtain⟨h1,h2⟩:=qua t a ha;have Ha:=qyv t a;have e:t.take a=t.take (lnF t a)++(t.drop (lnF t a)).take (a - lnF t a):=by
  rw[←List.take_add,Nat.add_sub_cancel' Ha]
 have hf:Go.Lib.trimRightS (t.take (lnF t a)) qdm=t.take (lnF t a)∧(t.take (lnF t a)).getLast?.any (·!= 10)=false:=by
  rcases h2 with h2 | ⟨l,h2⟩
  ·rw[h2];exact⟨rfl,rfl⟩
  ·rw[h2,q19]
   exact⟨rfl,by simp⟩
 unfold emp;rw[e,q19];generalize (t.drop (lnF t a)).take (a - lnF t a)=m at h1;by_cases q:Go.Lib.trimRightS m qdm=[]
 ·have hm:=(qnv h1).1 ((q18 _ _).1 q)
  rw[if_pos q,hf.1,hm];exact⟨hf.2,fun _=>by rw[List.length_take];omega⟩
 ·have hm:m.all (fun x=>among x qah)=false:=by
   rw[Bool.eq_false_iff];exact fun z=>q ((q18 _ _).2 ((qnv h1).2 z))
  rw[if_neg q,hm];refine⟨?_,fun z=>by cases z⟩;obtain⟨b,hb,_,hl⟩:=q48 _ _ q;rw[List.getLast?_append,hl];simp[h1 b hb]
theorem q4r(t:List UInt8)(z:Nat)(hz:z≤t.length):((Go.Lib.trimLeftS (t.drop z) qdm).head?.any (·!= 10)=!(emp t z (lnT t z)))∧(emp t z (lnT t z)=true→t.length - (Go.Lib.trimPrefix (Go.Lib.trimLeftS (t.drop z) qdm) [10]).length=if lnT t z<t.length then lnT t z+1 else lnT t z):=by
 have e:t.drop z=(t.drop z).takeWhile (·!= 10)++(t.drop z).dropWhile (·!= 10):=List.takeWhile_append_dropWhile.symm;have h1:∀b∈(t.drop z).takeWhile (·!= 10),b≠10:=fun b hb=>by
  have:=q7d _ _ b hb;simpa using this
 have hk:=q7h t z hz;have Hb:emp t z (lnT t z)=((t.drop z).takeWhile (·!= 10)).all (fun x=>among x qah):=by
  unfold emp lnT;rw[Nat.add_sub_cancel_left]
  congr 1
  exact(List.prefix_iff_eq_take.1 (List.takeWhile_prefix _)).symm
 have hc:lnT t z=z+((t.drop z).takeWhile (·!= 10)).length:=rfl;have ha:((t.drop z).takeWhile (·!= 10)).length+((t.drop z).dropWhile (·!= 10)).length=t.length - z:=by
  rw[←List.length_append,←e,List.length_drop]
 have Ha:∀b,((t.drop z).dropWhile (·!= 10)).head?=some b→b=10:=fun b hb=>by
  have:=List.head?_dropWhile_not (·!= (10:UInt8)) (t.drop z);rw[hb]at this;simpa using this
 rw[Hb];generalize (t.drop z).takeWhile (·!= 10)=m at *;generalize (t.drop z).dropWhile (·!= 10)=r at *;by_cases q:∀b∈m,qdm.contains b=true
 ·have hm:=(qnv h1).1 q
  rw[e,q7v _ _ _ q,hm]
  match r,Ha,ha with
  | [],_,ha=>
    simp only[List.length_nil]at ha;refine⟨rfl,fun _=>?_⟩;rw[if_neg (by omega)];show t.length - 0=_;omega
  | b::r,hh,ha=>
    obtain rfl:=hh b rfl;simp only[List.length_cons]at ha;have e2:Go.Lib.trimLeftS (10::r) qdm=10::r:=rfl;rw[e2];refine⟨rfl,fun _=>?_⟩;have e3:Go.Lib.trimPrefix (10::r) [10]=r:=by
     unfold Go.Lib.trimPrefix Go.Lib.hasPrefix;simp[List.isPrefixOf]
    rw[e3,if_pos (by omega)];omega
 ·have hm:m.all (fun x=>among x qah)=false:=by
   rw[Bool.eq_false_iff];exact fun w=>q ((qnv h1).2 w)
  rw[e,hm];refine⟨?_,fun w=>by cases w⟩;obtain⟨b,hb,hl⟩:=q49 qdm m r q;rw[hl];simp[h1 b hb]
theorem q3m(t:List UInt8)(a z:Nat)(ha:a≤t.length)(hz:z≤t.length):qed t a z=if(emp t (lnF t a) a && emp t z (lnT t z))=true then(lnF t a,if lnT t z<t.length then lnT t z+1 else lnT t z) else(a,z):=by
 obtain⟨h1,h2⟩:=q67 t a ha;obtain⟨h3,h4⟩:=q4r t z hz;unfold qed;rw[h1,h3];cases e1:emp t (lnF t a) a
 ·rfl
 ·cases e2:emp t z (lnT t z)
  ·rfl
  ·rw[h2 e1,h4 e2];rfl
end Go.Proofs.YtfkhljmiehdgmaaGreatDoor.Pl
namespace Go.Proofs.YtfkhljmiehdgmaaGreatDoor
open Go.RowKit
structure Rm where
 kd:Int
 pos:Nat
 text:List UInt8
 pv:Value
 tn:Bool
 en:Nat
def qc8(r:Rm):List Value:=[.int .i64 r.kd,.int .i64 r.pos,.string ⟨r.text.toArray⟩,r.pv,.bool r.tn,.int .i64 r.en]
def qd4(L:List Rm):List Value:=L.flatMap qc8
theorem qki(L:List Rm):(qd4 L).length=L.length*6:=by
 induction L with
 | nil=>rfl
 | cons p L ih=>show (qd4 L).length+6=_;rw[ih,List.length_cons];omega
theorem qtt(L:List Rm)(p:Rm):qd4 (L++[p])=qd4 L++qc8 p:=by simp[qd4]
theorem qc4:∀(L:List Rm) (k:Nat) (p:Rm),L[k]?=some p→∀(j:Nat) (v:Value),(qc8 p)[j]?=some v→(qd4 L)[k*6+j]?=some v
 | [],k,p,e=>by simp at e
 | q::L,0,p,e=>by
   simp only[List.getElem?_cons_zero,Option.some.injEq]at e;subst e;intro j v hv;show (qc8 q++qd4 L)[0*6+j]?=some v;rw[Nat.zero_mul,Nat.zero_add,List.getElem?_append_left (List.getElem?_eq_some_iff.1 hv).1];exact hv
 | q::L,k+1,p,e=>by
   intro j v hv;have:=qc4 L k p (by simpa using e) j v hv;show (qc8 q++qd4 L)[(k+1)*6+j]?=some v;rw[List.getElem?_append_right (by simp[qc8];omega)];have e:(k+1)*6+j - (qc8 q).length=k*6+j:=by simp[qc8];omega
   rw[e];exact this
def qkh(L:List Rm)(m n:Nat):List Rm:=L.modify m fun r=>{ r with en:=n }
theorem qqh:∀(L:List Rm) (m n:Nat),m<L.length→(qd4 L).set (m*6+5) (.int .i64 n)=qd4 (qkh L m n)
 | [],m,n,h=>by simp at h
 | q::L,0,n,_=>rfl
 | q::L,m+1,n,h=>by
   have ih:=qqh L m n (by simpa using h);have e:qkh (q::L) (m+1) n=q::qkh L m n:=by simp[qkh]
   rw[e];show (qc8 q++qd4 L).set ((m+1)*6+5) _=qc8 q++qd4 (qkh L m n);rw[List.set_append_right _ _ (by simp[qc8];omega)];have e2:(m+1)*6+5 - (qc8 q).length=m*6+5:=by simp[qc8];omega
   rw[e2,ih]
structure RmOf(i:Nat)(r:Rm)(p:Pl.Pt):Prop where
 kd:r.kd=Pl.qbg p.kind
 pos:r.pos=p.pos
 text:r.text=p.text
 tn:r.tn=decide (p.kind=4)
 en:r.en=if p.kind=3∨p.kind=4 then p.mate - i else 0
 pv:∃ao n cap,r.pv=.slice ao n cap
structure RmsOf(L:List Rm)(parts:List Pl.Pt):Prop where
 len:L.length=parts.length
 each:∀i r p,L[i]?=some r→parts[i]?=some p→RmOf i r p
theorem q2y:RmsOf [] []:=⟨rfl,fun i r p h=>by simp at h⟩
theorem RmsOf.snoc{L:List Rm}{parts:List Pl.Pt}(h:RmsOf L parts)(r:Rm)(p:Pl.Pt)(hr:RmOf parts.length r p):RmsOf (L++[r]) (parts++[p]):=by
 refine⟨by rw[List.length_append,List.length_append,h.len];rfl,fun i r' p' h1 h2=>?_⟩;by_cases q:i<parts.length
 ·rw[List.getElem?_append_left (by rw[h.len];exact q)]at h1
  rw[List.getElem?_append_left q]at h2;exact h.each i r' p' h1 h2
 ·have h3:=(List.getElem?_eq_some_iff.1 h2).1
  rw[List.length_append]at h3;simp only[List.length_cons,List.length_nil]at h3;have e:i=parts.length:=by omega
  subst e;rw[List.getElem?_append_right (Nat.le_refl _),Nat.sub_self]at h2;rw[List.getElem?_append_right (by rw[h.len];exact Nat.le_refl _),h.len,Nat.sub_self]at h1;simp at h1 h2;subst h1 h2;exact hr
theorem RmsOf.mate{L:List Rm}{parts:List Pl.Pt}(h:RmsOf L parts)(m n:Nat)(hk:∀p,parts[m]?=some p→p.kind=3∨p.kind=4):RmsOf (qkh L m (n - m)) (Pl.qbc parts m n):=by
 refine⟨by unfold qkh Pl.qbc;rw[List.length_modify,List.length_modify];exact h.len,fun i r p h1 h2=>?_⟩;unfold qkh at h1;unfold Pl.qbc at h2;rw[List.getElem?_modify]at h1 h2;by_cases e:m=i
 ·subst e
  simp only[if_true]at h1 h2;obtain⟨r0,hr,rfl⟩:=Option.map_eq_some_iff.1 h1;obtain⟨p0,hp,rfl⟩:=Option.map_eq_some_iff.1 h2;have:=h.each m r0 p0 hr hp;exact⟨this.kd,this.pos,this.text,this.tn,by show n - m=if p0.kind=3∨p0.kind=4 then n - m else 0;rw[if_pos (hk p0 hp)],this.pv⟩
 ·simp only[if_neg e]at h1 h2
  obtain⟨r0,hr,rfl⟩:=Option.map_eq_some_iff.1 h1;obtain⟨p0,hp,rfl⟩:=Option.map_eq_some_iff.1 h2;exact h.each i r0 p0 hr hp
theorem qge:(130:TypeId)≠136:=by decide
theorem qtg:(130:TypeId)≠3:=by decide
theorem qf1:(136:TypeId)≠3:=by decide
structure PaAt(w0 wr:World)(L:List Rm)(op:List Nat)(vo vs:Value):Prop where
 res:wr.heap[w0.heap.size]?=some (.cells #[.int .i64 0,.int .i64 0] 130 (0,0))
 out:wr.ownsRow w0.heap.size 136 6 vo L.length (qd4 L)
 sc:wr.ownsRow w0.heap.size 3 1 vs op.length (qby op)
 below:Below w0.heap.size w0 wr
theorem PaAt.lt{w0 wr:World}{L:List Rm}{op:List Nat}{vo vs:Value}(h:PaAt w0 wr L op vo vs):w0.heap.size<wr.heap.size:=(lta h.res)
theorem PaAt.kept{w0 w w':World}{L:List Rm}{op:List Nat}{vo vs:Value}(h:PaAt w0 w L op vo vs)(hb:Below w.heap.size w w'):PaAt w0 w' L op vo vs:=
 ⟨(hb.block _ h.lt).trans h.res,qac h.out fun k hk=>hb.block k (h.out.lt k hk).2,qac h.sc fun k hk=>hb.block k (h.sc.lt k hk).2,h.below.trans (hb.mono (Nat.le_of_lt h.lt))⟩
theorem PaAt.more{w0 w w1 w':World}{L:List Rm}{op:List Nat}{vo vs vo':Value}(h:PaAt w0 w L op vo vs)(Hb:Below w.heap.size w w1)(r:Rm)(ha:w'.ownsRow w0.heap.size 136 6 vo' (L.length+1) (qd4 L++qc8 r))(Ha:w1.grownBy w' vo.ownBlock):PaAt w0 w' (L++[r]) op vo' vs:=by
 have h:=h.kept Hb;have hb:∀(k:Nat) (cs:Array Value) (t:TypeId) (fz:Nat×Nat),w1.heap[k]?=some (.cells cs t fz)→t≠136→w'.heap[k]?=w1.heap[k]?:=fun k cs t fz hk ht=>Ha.block k (Array.getElem?_eq_some_iff.1 hk).1 (fun e=>by
  obtain⟨cur,hc⟩:=qad h.out k e.symm;exact qae hk hc ht rfl)
 refine⟨(hb _ _ _ _ h.res qge).trans h.res,?_,qac h.sc fun k hk=>?_,h.below.grown Ha (Nat.le_of_lt h.lt) (fun k hk=>(h.out.lt k hk).1)⟩
 ·rw[qtt,List.length_append];exact ha
 ·obtain⟨cur,hc⟩:=qad h.sc k hk
  exact hb _ _ _ _ hc qf1.symm
theorem PaAt.push{w0 w w1 w':World}{L:List Rm}{op:List Nat}{vo vs vs':Value}(h:PaAt w0 w L op vo vs)(Hb:Below w.heap.size w w1)(n:Nat)(ha:w'.ownsRow w0.heap.size 3 1 vs' (op.length+1) (qby op++[.int .i64 n]))(Ha:w1.grownBy w' vs.ownBlock):PaAt w0 w' L (op++[n]) vo vs':=by
 have h:=h.kept Hb;have hb:∀(k:Nat) (cs:Array Value) (t:TypeId) (fz:Nat×Nat),w1.heap[k]?=some (.cells cs t fz)→t≠3→w'.heap[k]?=w1.heap[k]?:=fun k cs t fz hk ht=>Ha.block k (Array.getElem?_eq_some_iff.1 hk).1 (fun e=>by
  obtain⟨cur,hc⟩:=qad h.sc k e.symm;exact qae hk hc ht rfl)
 refine⟨(hb _ _ _ _ h.res qtg).trans h.res,qac h.out fun k hk=>?_,?_,h.below.grown Ha (Nat.le_of_lt h.lt) (fun k hk=>(h.sc.lt k hk).1)⟩
 ·obtain⟨cur,hc⟩:=qad h.out k hk
  exact hb _ _ _ _ hc qf1
 ·have e2:qby (op++[n])=qby op++[.int .i64 n]:=by simp[qby]
  rw[e2,List.length_append];exact ha
theorem PaAt.mated{w0 w:World}{L:List Rm}{op:List Nat}{g N cap:Nat}{vs:Value}(h:PaAt w0 w L op (.slice (some ⟨g,0,none⟩) N cap) vs)(m n:Nat)(hm:m<L.length):PaAt w0 (w.setCell ⟨g,m*6+5,none⟩ (.int .i64 n)) (qkh L m n) op (.slice (some ⟨g,0,none⟩) N cap) vs:=by
 have ha:∀k,k≠g→(w.setCell ⟨g,m*6+5,none⟩ (.int .i64 n)).heap[k]?=w.heap[k]?:=fun k hk=>Below.heap_setCell _ _ _ _ hk;obtain⟨cur,hc⟩:=qad h.out g rfl;have Ha:=(h.out.lt g rfl).1;refine⟨(ha _ (qae h.res hc qge)).trans h.res,?_,qac h.sc fun k hk=>?_,h.below.setCell Ha _⟩
 ·have hs:(qkh L m n).length=L.length:=by unfold qkh;rw[List.length_modify]
  have hN:N=L.length:=by
   rcases h.out.2 with ⟨h0,_⟩ | ⟨g',cap',cur',hv,_⟩
   ·cases h0
   ·injection hv
  subst hN;rw[hs,←qqh _ _ _ hm];exact(h.out.stored (m*6+5) (.int .i64 n)).1
 ·obtain⟨cur',hb⟩:=qad h.sc k hk
  exact ha k (qae hb hc qf1.symm)
theorem PaAt.pop{w0 w:World}{L:List Rm}{op:List Nat}{g cap n:Nat}{vo:Value}(h:PaAt w0 w L op vo (.slice (some ⟨g,0,none⟩) op.length cap))(hn:n≤op.length):PaAt w0 w L (op.take n) vo (.slice (some ⟨g,0,none⟩) n cap):=by
 refine⟨h.res,h.out,?_,h.below⟩;have:=qi3 h.sc n hn;have e:(op.take n).length=n:=by rw[List.length_take];omega
 rw[e];have e2:qby (op.take n)=(qby op).take (n*1):=by unfold qby;rw[List.map_take,Nat.mul_one]
 rw[e2];exact this
end Go.Proofs.YtfkhljmiehdgmaaGreatDoor
namespace Go.Proofs.YtfkhljmiehdgmaaGreatDoor.Pl
theorem qnr{t x:List UInt8}{a:Nat}{o:Nat}(ha:a≤t.length)(h:qdp t x a=o):∃i,o=a+i∧Go.Lib.cut (t.drop a) x=((t.drop a).take i,t.drop (o+x.length),true)∧o+x.length≤t.length∧((t.drop a).take i).length=i:=by
 unfold qdp at h;split at h
 ·omega
 ·next q=>
  obtain⟨i,hi⟩:∃i:Nat,Go.Lib.index (t.drop a) x=i:=⟨(Go.Lib.index (t.drop a) x).toNat,by omega⟩;rw[hi]at h;have ho:o=a+i:=by omega
  have hr:=Go.Lib.index_room (t.drop a) x (by rw[hi];omega);rw[hi,List.length_drop]at hr;refine⟨i,ho,?_,?_,?_⟩
  ·unfold Go.Lib.cut
   rw[hi,if_pos (by omega),List.drop_drop];have e:(i:Int).toNat=i:=by omega
   rw[e,ho,Nat.add_assoc]
  ·omega
  ·rw[List.length_take,List.length_drop];omega
theorem qqz{t x:List UInt8}{a:Nat}(h:qdp t x a<0):(Go.Lib.cut (t.drop a) x).2.2=false:=by
 unfold qdp at h;split at h
 ·next q=>
  unfold Go.Lib.cut;rw[if_neg (by omega)]
 ·omega
theorem zaa{t:List UInt8}{c:Ct}{a:Nat}(h:qdp t c.op a<0):c.step t a=.over (c.addText t a t.length):=qk8 (qqz h)
theorem zab{t:List UInt8}{c:Ct}{a o:Nat}(ha:a≤t.length)(h:qdp t c.op a=o)(h2:qdp t c.cl (o+c.op.length)<0):c.step t a=.slip 2 o:=by
 obtain⟨i,ho,hc,_,hl⟩:=qnr ha h;have e1:(Go.Lib.cut (t.drop a) c.op).1.length=i:=by rw[hc];exact hl
 have e2:(Go.Lib.cut (t.drop a) c.op).2.1=t.drop (o+c.op.length):=by rw[hc]
 rw[qgj (by rw[hc]) (by rw[e2];exact qqz h2),e1,ho]
def qhn(t:List UInt8)(b z:Nat):List UInt8:=(t.drop b).take (z - b)
theorem zar{t:List UInt8}{c:Ct}{a o z:Nat}(ha:a≤t.length)(h:qdp t c.op a=o)(h2:qdp t c.cl (o+c.op.length)=z)(l:Nat×Nat)
  (ho:(if(qa9 (Go.Lib.trimS (qhn t (o+c.op.length) z) qah)).kind≠2 then qed t o (z+c.cl.length) else(o,z+c.cl.length))=l) :
  c.step t a=if((c.addText t a l.1).take (qa9 (Go.Lib.trimS (qhn t (o+c.op.length) z) qah)) o).1≠0 then .slip ((c.addText t a l.1).take (qa9 (Go.Lib.trimS (qhn t (o+c.op.length) z) qah)) o).1 o
   else .next ((c.addText t a l.1).take (qa9 (Go.Lib.trimS (qhn t (o+c.op.length) z) qah)) o).2 l.2:=by
 obtain⟨i,hb,hc,hr,hl⟩:=qnr ha h;obtain⟨j,hz,Ha,_,Hb⟩:=qnr (by omega) h2;have e1:(Go.Lib.cut (t.drop a) c.op).1.length=i:=by rw[hc];exact hl
 have e2:(Go.Lib.cut (t.drop a) c.op).2.1=t.drop (o+c.op.length):=by rw[hc]
 have e3:(Go.Lib.cut (t.drop (o+c.op.length)) c.cl).1=qhn t (o+c.op.length) z:=by
  rw[Ha];unfold qhn;rw[hz,Nat.add_sub_cancel_left]
 have e4:(Go.Lib.cut (t.drop (o+c.op.length)) c.cl).1.length=j:=by rw[Ha];exact Hb
 refine qnj (by rw[hc]) (by rw[e2,Ha]) _ (by rw[e2,e3]) o (z+c.cl.length) (by rw[e1,hb]) (by rw[e2,e4,hz]) l ho
theorem q34{t x:List UInt8}{a o:Nat}(ha:a≤t.length)(h:qdp t x a=o):a≤o∧o+x.length≤t.length:=by
 obtain⟨i,Ha,_,hr,_⟩:=qnr ha h;omega
theorem qzb(t x:List UInt8)(a:Nat):qdp t x a=-1∨∃o:Nat,qdp t x a=o:=by
 unfold qdp;split
 ·exact .inl rfl
 ·next q=>exact .inr ⟨a+(Go.Lib.index (t.drop a) x).toNat,by omega⟩
end Go.Proofs.YtfkhljmiehdgmaaGreatDoor.Pl
namespace Go.Proofs.YtfkhljmiehdgmaaGreatDoor
open Go.RowKit
structure PaRd(w wr:World)(t:List UInt8)(OP CL:ByteArray)(parts:List Pl.Pt)(op:List Nat)(a:Nat)(L:List Rm)(vo vs:Value):Prop where
 at_:PaAt w wr L op vo vs
 of_:RmsOf L parts
 ok:Pl.CtOk t ⟨OP.data.toList,CL.data.toList,parts,op⟩ a
 eq:Pl.qam t=if((⟨OP.data.toList,CL.data.toList,parts,op⟩:Pl.Ct).rest t a).1.1=0 then((0,0),((⟨OP.data.toList,CL.data.toList,parts,op⟩:Pl.Ct).rest t a).2) else(((⟨OP.data.toList,CL.data.toList,parts,op⟩:Pl.Ct).rest t a).1,[])
theorem PaRd.next{w wr w':World}{t:List UInt8}{OP CL OP' CL':ByteArray}{parts:List Pl.Pt}{op:List Nat}{a:Nat}{L L':List Rm}{vo vs vo' vs':Value}(h:PaRd w wr t OP CL parts op a L vo vs){parts':List Pl.Pt}{op':List Nat}{b:Nat}
  (hs:(⟨OP.data.toList,CL.data.toList,parts,op⟩:Pl.Ct).step t a=.next ⟨OP'.data.toList,CL'.data.toList,parts',op'⟩ b) (hA:PaAt w w' L' op' vo' vs') (hL:RmsOf L' parts'):PaRd w w' t OP' CL' parts' op' b L' vo' vs'∧a<b:=by
 obtain⟨h1,h2⟩:=Pl.qf8 h.ok hs;refine⟨⟨hA,hL,h1,?_⟩,h2⟩;rw[←Pl.qoj h.ok hs];exact h.eq
theorem Pl.readTg_low(b:UInt8)(l:List UInt8)(ha:b≠33)(Ha:b≠61):(Pl.qa9 (b::l)).kind≠7∧(Pl.qa9 (b::l)).kind≠8:=by
 have e:Pl.qa0 (b::l)=if b=35 then 3 else if b=94 then 4 else if b=47 then 5 else if b=62 then 6 else 2:=by
  show (if b=33 then 7 else if b=61 then 8 else _)=_;rw[if_neg ha,if_neg Ha]
 have key:∀(k:Nat) (n:List UInt8),(Pl.qb9 k n).kind=k:=by
  intro k n;unfold Pl.qb9;by_cases q:(if k=6 then Pl.qa6 n else Pl.isNm n)=true
  ·rw[if_pos q]
  ·rw[if_neg q]
 have h:Pl.qa0 (b::l)≠7∧Pl.qa0 (b::l)≠8:=by
  rw[e]
  repeat' split
  all_goals decide
 unfold Pl.qa9;rw[if_neg h.1,if_neg h.2];split
 ·rw[key];decide
 ·rw[key];exact h
theorem Pl.take_plain{c:Pl.Ct}{one:Pl.Tg}{o:Nat}(hb:one.slip=0)(h7:one.kind≠7)(h8:one.kind≠8)(ha:Pl.qbg one.kind≠2)(Ha:Pl.qbg one.kind≠3):c.take one o=(0,{ c with parts:=c.parts++[⟨one.kind,o,one.name,0⟩] }):=by
 unfold Pl.Ct.take;have q2:¬(one.kind=3∨one.kind=4):=fun h=>ha (by rcases h with h | h<;>rw[h]<;>rfl)
 have q3:¬one.kind=5:=fun h=>Ha (by rw[h];rfl);rw[if_neg (by omega),if_neg h7,if_neg h8,if_neg q2,if_neg q3]
theorem Pl.take_open{c:Pl.Ct}{one:Pl.Tg}{o:Nat}(Ha:one.slip=0)(ha:Pl.qbg one.kind=2):c.take one o=if c.opened.length=6 then(8,c) else(0,{ c with parts:=c.parts++[⟨one.kind,o,one.name,0⟩],opened:=c.opened++[c.parts.length] }):=by
 have q:one.kind=3∨one.kind=4:=by
  unfold Pl.qbg at ha;by_cases q:one.kind=3∨one.kind=4
  ·exact q
  ·rw[if_neg q]at ha
   repeat' split at ha
   all_goals omega
 unfold Pl.Ct.take;rw[if_neg (by omega),if_neg (by omega),if_neg (by omega),if_pos q]
theorem Pl.take_close{c:Pl.Ct}{one:Pl.Tg}{o:Nat}(Ha:one.slip=0)(ha:Pl.qbg one.kind=3):c.take one o=match c.opened.getLast? with
  | none=>(5,c)
  | some m=>if Pl.qk7 c.parts m≠one.name then(6,c) else(0,{ c with parts:=Pl.qbc c.parts m c.parts.length++[⟨5,o,one.name,m⟩],opened:=c.opened.dropLast }):=by
 have q:one.kind=5:=by
  unfold Pl.qbg at ha
  repeat' split at ha
  all_goals omega
 unfold Pl.Ct.take;rw[if_neg (by omega),if_neg (by omega),if_neg (by omega),if_neg (by omega),if_pos q];cases c.opened.getLast?<;>rfl
theorem Pl.refKind_one(k:Nat):(Pl.qbg k=1)=(k=2):=by
 unfold Pl.qbg;refine propext ⟨fun h=>?_,fun h=>by rw[h];rfl⟩
 repeat' split at h
 all_goals omega
def qj6(w:World)(t:List UInt8)(e:Ending)(w':World):Prop:=
 (∃v,e=.returned (.tuple #[v,.agg #[.int .i64 (Pl.qam t).1.1,.int .i64 (Pl.qam t).1.2]])∧((Pl.qam t).1.1=0→∃L,RmsOf L (Pl.qam t).2∧w'.ownsRow w.heap.size 136 6 v L.length (qd4 L)))∧Below w.heap.size w w'
theorem Pl.addText_keeps(o c t:List UInt8)(parts:List Pl.Pt)(op:List Nat)(a z:Nat):(⟨o,c,parts,op⟩:Pl.Ct).addText t a z=⟨o,c,((⟨o,c,parts,op⟩:Pl.Ct).addText t a z).parts,op⟩:=by
 unfold Pl.Ct.addText;split<;>rfl
theorem qo2:(Tryz.prog.info? 130).map (·.size)=some 2:=by kernel_rfl
theorem Pl.trR_idem(cs l:List UInt8):Go.Lib.trimRightS (Go.Lib.trimRightS l cs) cs=Go.Lib.trimRightS l cs:=by
 have:∀m:List UInt8,(m.dropWhile (cs.contains ·)).dropWhile (cs.contains ·)=m.dropWhile (cs.contains ·):=by
  intro m
  induction m with
  | nil=>rfl
  | cons x m ih=>
    by_cases q:cs.contains x=true
    ·rw[List.dropWhile_cons_of_pos q];exact ih
    ·rw[List.dropWhile_cons_of_neg q,List.dropWhile_cons_of_neg q]
 unfold Go.Lib.trimRightS;rw[List.reverse_reverse,this]
theorem qd2{P:Program}{fn:Func}{u p:Tmp}{ty:TypeId}(h:fn.results=#[.tmp u,.cell p ty])(tmps:Array Value)(w:World)(g:Nat)(cs:Array Value)(d:TypeDesc)
  (hp:tmps.getD p undef=.pointer (some ⟨g,0,none⟩)) (hg:∀j v,cs.toList[j]?=some v→w.cell? ⟨g,j,none⟩=some v) (hu:P.underlying ty=some d) (hd:aggD d=true) (hi:(P.info? ty).map (·.size)=some cs.size) :
  (results fn tmps).run P w=.ok (.tuple #[tmps.getD u undef,.agg cs]) w:=by
 have hl:=qbl (P:=P) w g ty cs d hg hu (by cases d<;>first | rfl | cases hd) hi
 rw[Array.getD_eq_getD_getElem?]at hp;simp only[results,h];simp[hp,asAddr,hl]
theorem qr6{w wr:World}{t:List UInt8}{a:Act}{k p:Nat}(ha:wr.heap[w.heap.size]?=some (.cells #[.int .i64 0,.int .i64 0] 130 (0,0)))(hb:Below w.heap.size w wr)(hv:Pl.qam t=((k,p),[]))(hk:k≠0)
  (hp:a.tmps.getD 3 undef=.pointer (some ⟨w.heap.size,0,none⟩)) (h2:a.tmps.getD 2 undef=.slice none 0 0) (Ha:a.defers=[]) :
  bodyPost Tryz.prog Tryz.f53 (qj6 w t) .ret a ((wr.setCell ⟨w.heap.size,0,none⟩ (.int .i64 k)).setCell ⟨w.heap.size,1,none⟩ (.int .i64 p)):=by
 have h1:=heap_setCell_same wr w.heap.size 0 _ _ (.int .i64 (k:Int)) ha;have h3:=heap_setCell_same _ w.heap.size 1 _ _ (.int .i64 (p:Int)) h1;refine bodyPost_ret (qd2 (cs:=#[.int .i64 k,.int .i64 p]) Tryz.results53 a.tmps _ w.heap.size _ hp (qaa h3) Tryz.underlying130 rfl qo2) Ha ?_;rw[h2];refine⟨⟨_,by rw[hv],fun h=>absurd (by rw[hv]at h;exact h) hk⟩,(hb.setCell (Nat.le_refl _) _).setCell (Nat.le_refl _) _⟩
theorem q92{w wr:World}{t:List UInt8}{a:Act}{v vs:Value}{L:List Rm}{op:List Nat}{parts:List Pl.Pt}(hA:PaAt w wr L op v vs)(hv:Pl.qam t=((0,0),parts))(hL:RmsOf L parts)
  (hp:a.tmps.getD 3 undef=.pointer (some ⟨w.heap.size,0,none⟩)) (h2:a.tmps.getD 2 undef=v) (Ha:a.defers=[]) :
  bodyPost Tryz.prog Tryz.f53 (qj6 w t) .ret a ((wr.setCell ⟨w.heap.size,0,none⟩ (.int .i64 0)).setCell ⟨w.heap.size,1,none⟩ (.int .i64 0)):=by
 have h1:=heap_setCell_same wr w.heap.size 0 _ _ (.int .i64 0) hA.res;have h3:=heap_setCell_same _ w.heap.size 1 _ _ (.int .i64 0) h1;refine bodyPost_ret (qd2 (cs:=#[.int .i64 0,.int .i64 0]) Tryz.results53 a.tmps _ w.heap.size _ hp (qaa h3) Tryz.underlying130 rfl qo2) Ha ?_;rw[h2];have ha:v.ownBlock≠some w.heap.size:=fun e=>by
  obtain⟨cur,hc⟩:=qad hA.out _ e;exact qae hA.res hc qge rfl
 exact⟨⟨_,by rw[hv];rfl,fun _=>⟨L,by rw[hv];exact hL,ownsRow_setCell_other (ownsRow_setCell_other hA.out ha _) ha _⟩⟩,(hA.below.setCell (Nat.le_refl _) _).setCell (Nat.le_refl _) _⟩
theorem qy5:(Tryz.prog.info? 136).map (fun i=>(i.zero,i.size,i.bytes))=some (some (.agg #[.int .i64 0,.int .i64 0,.string ⟨#[]⟩,.slice none 0 0,.bool false,.int .i64 0]),6,72):=by kernel_rfl
def qqg(a:Nat)(x:List UInt8):Rm:=⟨0,a,x,.slice none 0 0,false,0⟩
theorem qoi(i a:Nat)(x:List UInt8):RmOf i (qqg a x) ⟨1,a,x,0⟩:=⟨rfl,rfl,rfl,rfl,by show 0=_;rw[if_neg (by simp)],none,0,0,rfl⟩
theorem q8s(s:ByteArray)(z:Int)(a:Nat)(w:World)(hz:z=a)(hs:s.size≤1000000)(ha:a≤s.size) :
  Calls Tryz.prog 85 #[.string s,.int .i64 z] w fun e w'=>e=.returned (.int .i64 (Pl.lnT s.data.toList a))∧w=w':=by
 subst hz;exact q0x s a w hs ha
theorem qzi(s:ByteArray)(z:Int)(a b:Nat)(w:World)(hz:z=a)(hs:s.size≤1000000)(hb:b≤s.size)(ha:a≤b) :
  Calls Tryz.prog 86 #[.string s,.int .i64 z,.int .i64 b] w fun e w'=>e=.returned (.bool (Pl.emp s.data.toList a b))∧w=w':=by
 subst hz;exact qxr s a b w hs hb ha
theorem qjc(s x:ByteArray)(z:Int)(k:Nat)(w:World)(hz:z=k)(hs:s.size≤1000000)(hx:x.size≤1000000)(hk:k≤s.size) :
  Calls Tryz.prog 81 #[.string s,.string x,.int .i64 z] w fun e w'=>e=.returned (.int .i64 (Pl.qdp s.data.toList x.data.toList k))∧w=w':=by
 subst hz;exact qq4 s x k w hs hx hk
namespace Pl
structure PkOk(I:List UInt8)(b:UInt8)(sil:Bool)(K:Int)(tx:List UInt8)(tn:Bool):Prop where
 one:(K==1)=decide ((qa9 I).kind=2)
 sl:sil=true→K=0∧tx=[]∧tn=false∧((b=33∧qa9 I=⟨7,0,[],[],[]⟩)∨(b=61∧qa9 I=qc9 I))
 op:sil=false→b≠33∧b≠61∧pcOk (qcc b) I=true∧K=qfm (qcc b)∧tx=qi2 (qcc b) I∧tn=decide (qcc b=1)
theorem q0w{t:List UInt8}{o z:Nat}{k:Nat}{K:Int}(hk:(K==1)=decide (k=2))(ho:o≤t.length)(hz:z≤t.length){l1 l2:Nat}
  (h1:l1=if(!(K==1) && (emp t (lnF t o) o && emp t z (lnT t z)))=true then lnF t o else o)
  (h2:l2=if(!(K==1) && (emp t (lnF t o) o && emp t z (lnT t z)))=true then(if lnT t z<t.length then lnT t z+1 else lnT t z) else z) :
  (if k≠2 then qed t o z else(o,z))=(l1,l2):=by
 rw[hk]at h1 h2;by_cases q:k=2
 ·rw[if_neg (by omega),h1,h2,decide_eq_true q];rfl
 ·rw[if_pos q,q3m t o z ho hz,h1,h2,decide_eq_false q]
  cases hb:(emp t (lnF t o) o && emp t z (lnT t z))<;>rfl
theorem q8d{I:List UInt8}{b:UInt8}(hI:I=b::I.drop 1)(hR:Go.Lib.trimRightS I qah=I)(hb:b=33∨b=61∨pcOk (qcc b) I=true):∃sil K tx tn,PkOk I b sil K tx tn∧sil=(b==33 || b==61):=by
 by_cases ha:b=33
 ·have e:qa9 I=⟨7,0,[],[],[]⟩:=by rw[hI,ha];rfl
  refine⟨true,0,[],false,⟨by rw[e];rfl,fun _=>⟨rfl,rfl,rfl,.inl ⟨ha,e⟩⟩,(fun h=>nomatch h)⟩,by rw[ha];rfl⟩
 by_cases Ha:b=61
 ·have e:qa9 I=qc9 I:=by rw[hI,Ha];rfl
  have e2:(qc9 I).kind=8:=by
   unfold qc9
   repeat' split
   all_goals rfl
  refine⟨true,0,[],false,⟨by rw[e,e2];rfl,fun _=>⟨rfl,rfl,rfl,.inr ⟨Ha,e⟩⟩,(fun h=>nomatch h)⟩,by rw[Ha];rfl⟩
 have hT:=qkj b (I.drop 1) ha Ha (by rw[←hI];exact hR);rw[←hI]at hT;refine⟨false,qfm (qcc b),qi2 (qcc b) I,decide (qcc b=1),⟨?_,(fun h=>nomatch h),fun _=>⟨ha,Ha,(hb.resolve_left ha).resolve_left Ha,rfl,rfl,rfl⟩⟩,?_⟩
 ·rw[←hT.1]
  by_cases q:(qa9 I).kind=2
  ·rw[decide_eq_true q,q];rfl
  ·rw[decide_eq_false q,beq_eq_false_iff_ne];intro e;rw[refKind_one]at e;exact q e
 ·rw[beq_eq_false_iff_ne.2 ha,beq_eq_false_iff_ne.2 Ha];rfl
end Pl
theorem PaAt.cell{w0 w:World}{L:List Rm}{op:List Nat}{vo vs:Value}(h:PaAt w0 w L op vo vs){g:Nat}{cs:Array Value}{fz:Nat×Nat}(hg:w.heap[g]?=some (.cells cs 136 fz))(hn:vo.ownBlock≠some g)(hB:w0.heap.size≤g)(j:Nat)(v:Value):PaAt w0 (w.setCell ⟨g,j,none⟩ v) L op vo vs:=by
 refine⟨(Below.heap_setCell _ _ _ _ (qae h.res hg qge)).trans h.res,ownsRow_setCell_other h.out hn _,qac h.sc fun k hk=>?_,h.below.setCell hB _⟩;obtain⟨cur,hc⟩:=qad h.sc k hk;exact Below.heap_setCell _ _ _ _ (qae hc hg qf1.symm)
theorem PaAt.six{w0 w:World}{L:List Rm}{op:List Nat}{vo vs:Value}(h:PaAt w0 w L op vo vs){g:Nat}{kd:Int}{a:Nat}{tx:ByteArray}{pv:Value}{tn:Bool}{en:Int}(hg:w.heap[g]?=some (.cells (qb8 kd a tx pv tn en) 136 (0,0)))(hn:vo.ownBlock≠some g)(hB:w0.heap.size≤g)(K:Int)(o:Nat)(t:ByteArray)(p:Value)(b:Bool)(e:Int) :
  PaAt w0 ((((((w.setCell ⟨g,0,none⟩ (.int .i64 K)).setCell ⟨g,1,none⟩ (.int .i64 o)).setCell ⟨g,2,none⟩ (.string t)).setCell ⟨g,3,none⟩ p).setCell ⟨g,4,none⟩ (.bool b)).setCell ⟨g,5,none⟩ (.int .i64 e)) L op vo vs ∧
  ((((((w.setCell ⟨g,0,none⟩ (.int .i64 K)).setCell ⟨g,1,none⟩ (.int .i64 o)).setCell ⟨g,2,none⟩ (.string t)).setCell ⟨g,3,none⟩ p).setCell ⟨g,4,none⟩ (.bool b)).setCell ⟨g,5,none⟩ (.int .i64 e)).heap[g]?=some (.cells (qb8 K o t p b e) 136 (0,0)):=by
 have b1:=heap_setCell_same _ g 0 _ _ (.int .i64 K) hg;have b2:=heap_setCell_same _ g 1 _ _ (.int .i64 (o:Int)) b1;have b3:=heap_setCell_same _ g 2 _ _ (.string t) b2;have b4:=heap_setCell_same _ g 3 _ _ p b3;have b5:=heap_setCell_same _ g 4 _ _ (.bool b) b4;exact⟨(((((h.cell hg hn hB 0 _).cell b1 hn hB 1 _).cell b2 hn hB 2 _).cell b3 hn hB 3 _).cell b4 hn hB 4 _).cell b5 hn hB 5 _,heap_setCell_same _ g 5 _ _ _ b5⟩
theorem q0d{i o k:Nat}{K:Int}{tx:List UInt8}{tn:Bool}{ao:Option Addr}{n cap:Nat}(h1:Pl.qbg k=K)(h4:decide (k=4)=tn)(h2:K≠2):RmOf i ⟨K,o,tx,.slice ao n cap,tn,0⟩ ⟨k,o,tx,0⟩:=
 ⟨h1.symm,rfl,rfl,h4.symm,by show 0=_;rw[if_neg (fun h=>h2 (by rw[←h1];rcases h with h | h<;>rw[show k=_ from h]<;>rfl))],_,_,_,rfl⟩
theorem q2z{i o k:Nat}{K:Int}{tx:List UInt8}{tn:Bool}{ao:Option Addr}{n cap:Nat}(h1:Pl.qbg k=K)(h4:decide (k=4)=tn):RmOf i ⟨K,o,tx,.slice ao n cap,tn,0⟩ ⟨k,o,tx,0⟩:=
 ⟨h1.symm,rfl,rfl,h4.symm,by show 0=if _ then 0 - i else 0;rw[Nat.zero_sub];split<;>rfl,_,_,_,rfl⟩
theorem q0e{i o k m:Nat}{K:Int}{tx:List UInt8}{tn:Bool}{ao:Option Addr}{n cap:Nat}(h1:Pl.qbg k=K)(h4:decide (k=4)=tn)(h3:K=3):RmOf i ⟨K,o,tx,.slice ao n cap,tn,0⟩ ⟨5,o,tx,m⟩:=by
 refine⟨h3,rfl,rfl,?_,rfl,_,_,_,rfl⟩;rw[←h4];exact decide_eq_false (fun e=>by rw[e,h3]at h1;exact absurd h1 (by decide))
theorem PaAt.drew{w0 w:World}{L:List Rm}{op:List Nat}{vo vs:Value}(h:PaAt w0 w L op vo vs):PaAt w0 w.drew L op vo vs:=⟨h.res,qac h.out fun _ _=>rfl,qac h.sc fun _ _=>rfl,h.below.drew⟩
theorem q2u(L:List Rm)(m n:Nat):(qkh L m n).length=L.length:=by unfold qkh;rw[List.length_modify]
theorem qt4{w:World}{B n k g cap:Nat}{e:TypeId}{xs:List Value}(h:w.ownsRow B e k (.slice (some ⟨g,0,none⟩) n cap) n xs):n≤cap:=by
 rcases h.2 with ⟨h0,_⟩ | ⟨g',cap',cur,hv,_,_,h1,_⟩
 ·cases h0
 ·injection hv with _ _ e3
  omega
theorem PaAt.apart{w0 w:World}{L:List Rm}{op:List Nat}{g7 cap:Nat}{vs:Value}(h:PaAt w0 w L op (.slice (some ⟨g7,0,none⟩) L.length cap) vs){g:Nat}{K:Int}{a:Nat}{tx:ByteArray}{pv:Value}{tn:Bool}{en:Int}{ty:TypeId}{fz:Nat×Nat}(hg:w.heap[g]?=some (.cells (qb8 K a tx pv tn en) ty fz)){m:Nat}{r:Rm}(hr:L[m]?=some r)(h2:r.kd=2)(hK:K=3):g≠g7:=by
 rintro rfl;have hm:=(List.getElem?_eq_some_iff.1 hr).1;have c1:w.cell? ⟨g,m*6+0,none⟩=some (.int .i64 r.kd):=by
  rw[World.ownsRow.cellAt h.out (m*6+0) (Nat.lt_of_lt_of_le (by omega:m*6+0<(m+1)*6) (Nat.mul_le_mul_right 6 hm))];exact qc4 _ m r hr 0 _ rfl
 have c2:w.cell? ⟨g,m*6+0,none⟩=(qb8 K a tx pv tn en)[m*6+0]?:=by unfold World.cell?;rw[hg];rfl
 rw[c2]at c1;cases m with
 | zero=>
   have c3:(qb8 K a tx pv tn en)[0*6+0]?=some (.int .i64 K):=rfl;rw[c3]at c1;injection c1 with c1;injection c1 with _ c1;omega
 | succ m=>
   rw[Array.getElem?_eq_none (by show 6≤_;omega)]at c1;cases c1
theorem behC(HB:qg7)(S:List Pl.Src)(hS:SrcsOk S):∀k,BehC S k:=by
 intro k
 induction k with
 | zero=>
   intro w B F vv s n x h ho hk;have:=ho.few;omega
 | succ k ih=>
   intro w B F vv s n x h ho hk hx hn ht;have hB:B≤w.heap.size:=by
    have h1:=h.le.1;have h2:=(lta h.blk);omega
   unfold Pl.behV;by_cases h0:Pl.qai S n=0
   ·rw[if_pos h0]
    exact qs6 S hS w B F vv s n x h hn hB h0
   rw[if_neg h0];cases hy:Pl.qa1 s.ends (Pl.qai S n,x) with
   | some y=>exact qvg S hS w B F vv s n x h ho hx hn hB ht h0 y hy
   | none=>
     simp only;by_cases hf:s.ends.length=256
     ·rw[if_pos hf]
      exact qx4 S hS w B F vv s n x h ho hx hn hB ht h0 hy hf
     ·rw[if_neg hf]
      exact q1k HB S hS k ih w B F vv s n x h ho hx hn hB ht h0 hy hk hf _ rfl
end Go.Proofs.YtfkhljmiehdgmaaGreatDoor
