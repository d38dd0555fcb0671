/-
  Steps of the proof.
-/
import Derived.Test.YtfkhljmiehdgmaaGreatDoorCmBR
import Derived.Shelf.Abstract
set_option maxRecDepth 100000
set_option maxHeartbeats 40000000
namespace Go.Proofs.YtfkhljmiehdgmaaGreatDoor
open Go.RowKit
theorem Pl.wrong_stays:∀(l:List UInt8) (p:Pl.Sp) (g:Int) (i:Nat),¬g<0→Pl.wrongFrom p g i l=g
 | [],_,_,_,_=>rfl
 | b::l,p,g,i,h=>by
   unfold Pl.wrongFrom;rw[if_neg (fun q=>h q.1)];exact Pl.wrong_stays l _ _ _ h
theorem Pl.wrong_scheme:∀(l:List UInt8) (x:Pl.Sx) (p:Pl.Sp) (i:Nat),Pl.Cm x→Pl.ParX x p→Pl.wrongFrom p (-1) i l=match Pl.qbj x l with | some t=>((i+t:Nat):Int) | Option.none=>-1
 | [],_,_,_,_,_=>rfl
 | b::l,x,p,i,hc,hp=>by
   unfold Pl.wrongFrom Pl.qbj;rw[Pl.qwh x p b hc.fit.fit.ok hp];by_cases h:b=58∧p.view.link=4
   ·rw[if_pos ⟨by omega,h⟩,if_pos (by simp[h.1,h.2]),Pl.wrong_stays _ _ _ _ (by omega)]
    rfl
   ·rw[if_neg (fun q=>h q.2),if_neg (by simpa using h),Pl.wrong_scheme l (x.behind b) (p.next b) (i+1) (Pl.qs1 [b] x hc) (Pl.qot x p b hc.fit.fit.ok hp)]
    cases Pl.qbj (x.behind b) l with
    | none=>rfl
    | some t=>show ((i+1+t:Nat):Int)=((i+(t+1):Nat):Int);omega
theorem zag{K:Sk}(h:Pl.nmOf K.S=K.nm):Pl.bdOf K.S=K.bd:=by funext n;unfold Pl.bdOf Sk.bd;rw[h]
structure ThP(K:Sk)(RR R0 R:List Pl.Vt)(E0 E:List Pl.Et)(r0 r j off len:Nat)(x0:Pl.Sx)(F:Pl.Ft)(p':Pl.Sp)(ok:Bool):Prop where
 inv:Pl.EInv K.bd RR r E []
 pre:R0 <+: R
 sub:∀u∈R,u∈RR
 nod:R.Nodup
 lenE:E0.length≤E.length
 up:r0≤r
 le:r≤r0+4000000*(E.length - E0.length)+4000000*(R.length - R0.length)+2000*len
 sp:Pl.SpOk r p'
 th:∃e,Pl.Th K.S j off (off+len) x0 R0 R F e∧(ok=true→∃y,e=some y∧Pl.ParX y p'∧Pl.Cm y)∧(ok=false→e=Option.none)
def WthO(K:Sk)(RR:List Pl.Vt)(w:World)(gw:Nat)(E:List Pl.Et)(R:List Pl.Vt)(r j off len:Nat)(x:Pl.Sx)(e:Ending)(w':World):Prop:=
 ∃p' ok ve' vS' E' R' r' F',e=.returned (.tuple #[qat p',.bool ok])∧WkAt K w' gw ve' vS' E' R' F'∧Cw K.B w w'∧ThP K RR R R' E E' r r' j off len x F' p' ok
def WthC(K:Sk)(RR:List Pl.Vt)(k:Nat):Prop:=∀(w:World) (gw:Nat) (ve vS v:Value) (wh:ByteArray) (E:List Pl.Et) (R:List Pl.Vt) (r j off len:Nat) (x:Pl.Sx) (p:Pl.Sp),
 WkAt K w gw ve vS E R Pl.Ft.none→SlOf (K.pv j) (Pl.qab K.S j).length off len v→wh.data.toList=Pl.qep K.S j→j≤K.N.length→off+len≤(Pl.qab K.S j).length→Pl.Wf off (Pl.sgm (Pl.qab K.S j) off (off+len)) →
 Pl.EInv K.bd RR r E []→Pl.Cm x→Pl.ParX x p→Pl.SpOk r p→(∀u∈R,u∈RR)→R.Nodup→K.cl RR j off x→K.B≤w.heap.size →
 (257 - R.length)*3000+len≤k→r+4000000*(429926418001 - E.length)+4000000*(257 - R.length)+2000*len≤1900000000000000000 →
 Calls Tryz.prog 40 #[.pointer (some ⟨gw,0,none⟩),v,.string wh,qat p] w fun e w'=>WthO K RR w gw E R r j off len x e w'
structure Tq(K:Sk)(RR R0 R:List Pl.Vt)(E0 E:List Pl.Et)(r0 r j off len i:Nat)(x0 x:Pl.Sx)(p:Pl.Sp):Prop where
 inv:Pl.EInv K.bd RR r E []
 cm:Pl.Cm x
 par:Pl.ParX x p
 sp:Pl.SpOk r p
 pre:R0 <+: R
 sub:∀u∈R,u∈RR
 nod:R.Nodup
 lenE:E0.length≤E.length
 up:r0≤r
 le:r≤r0+4000000*(E.length - E0.length)+4000000*(R.length - R0.length)+2000*(i - off)
 lo:off≤i
 hi:i≤off+len
 cl:K.cl RR j i x
 wf:Pl.Wf i (Pl.sgm (Pl.qab K.S j) i (off+len))
 th:∀R2 f e,Pl.Th K.S j i (off+len) x R R2 f e→Pl.Th K.S j off (off+len) x0 R0 R2 f e
structure Vq(K:Sk)(RR R R1:List Pl.Vt)(E E1:List Pl.Et)(r r1 m:Nat)(x:Pl.Sx)(F:Pl.Ft):Prop where
 inv:Pl.EInv K.bd RR r1 E1 []
 pre:R <+: R1
 sub:∀u∈R1,u∈RR
 nod:R1.Nodup
 lenE:E.length≤E1.length
 up:r≤r1
 le:r1≤r+4000000*(E1.length - E.length)+4000000*(R1.length - R.length)
 vs:Pl.VsD K.S m x R R1 F
section
variable {K:Sk}{RR R R1 R0:List Pl.Vt}{E E0 E1 E2:List Pl.Et}{r r0 r1 r2 j off len i m t:Nat}{x x0 y:Pl.Sx}{p p':Pl.Sp}{F:Pl.Ft}{pt:Pl.Pt}{ok:Bool}
theorem Tq.fin(h:Tq K RR R0 R E0 E r0 r j off len (off+len) x0 x p):ThP K RR R0 R E0 E r0 r j off len x0 Pl.Ft.none p true:=
 ⟨h.inv,h.pre,h.sub,h.nod,h.lenE,h.up,by have:=h.le;omega,h.sp,some x,h.th _ _ _ (Pl.Th.fin (Nat.le_refl _)),fun _=>⟨x,rfl,h.par,h.cm⟩,fun q=>by cases q⟩
theorem Tq.wrong(h:Tq K RR R0 R E0 E r0 r j off len i x0 x p)(ht:Pl.Th K.S j i (off+len) x R R F Option.none):ThP K RR R0 R E0 E r0 r j off len x0 F p false:=
 ⟨h.inv,h.pre,h.sub,h.nod,h.lenE,h.up,by have:=h.le;have:=h.hi;have:=h.lo;omega,h.sp,Option.none,h.th _ _ _ ht,fun q=>(by cases q),fun _=>rfl⟩
theorem Tq.text(h:Tq K RR R0 R E0 E r0 r j off len i x0 x p)(hq:(Pl.qab K.S j)[i]?=some pt)(hi:i<off+len)(hk:pt.kind=1)(hl:pt.text.length≤2000)(hs:Pl.qbj x pt.text=Option.none) :
  Tq K RR R0 R E0 E r0 (r+pt.text.length) j off len (i+1) x0 (Pl.qaw x pt.text) (Pl.qc7 p pt.text):=by
 have:=h.le;have:=h.lo;have:=h.up;exact⟨qxo h.inv (by omega),Pl.qs1 _ _ h.cm,Pl.qo7 _ _ _ h.cm.fit.fit.ok h.par,Pl.spFromOk _ _ _ h.sp,h.pre,h.sub,h.nod,h.lenE,by omega,by omega,by omega,by omega,h.cl.next ⟨pt,hq,.inl ⟨hk,rfl,rfl⟩⟩,Pl.qnl h.wf hq hi (.inl hk),fun R2 f e ht=>h.th _ _ _ (ht.text hi hq hk hs)⟩
theorem Tq.hole(h:Tq K RR R0 R E0 E r0 r j off len i x0 x p)(hq:(Pl.qab K.S j)[i]?=some pt)(hi:i<off+len)(hk:pt.kind=2)(hs:x.hole.2=0) :
  Tq K RR R0 R E0 E r0 r j off len (i+1) x0 x.behindHole p.behindHole:=by
 have:=h.le;have:=h.lo;refine⟨h.inv,Pl.qxy h.cm,Pl.qfj _ _ h.cm.fit.fit.ok h.par,?_,h.pre,h.sub,h.nod,h.lenE,h.up,by omega,by omega,by omega,h.cl.next ⟨pt,hq,.inr (.inl ⟨hk,rfl,rfl⟩)⟩,Pl.qnl h.wf hq hi (.inr (.inl hk)),fun R2 f e ht=>h.th _ _ _ (ht.hole hi hq hk hs)⟩;unfold Pl.Sp.behindHole;split
 ·exact⟨h.sp.mode,h.sp.tag,h.sp.attr,h.sp.inside,h.sp.run⟩
 ·exact h.sp
theorem Tq.absent(hN:Pl.nmOf K.S=K.nm)(h:Tq K RR R0 R E0 E r0 r j off len i x0 x p)(hq:(Pl.qab K.S j)[i]?=some pt)(hi:i<off+len)(hk:pt.kind=6)(hm:Pl.qca K.nm pt.text=Option.none) :
  Tq K RR R0 R E0 E r0 r j off len (i+1) x0 x p:=by
 have:=h.le;have:=h.lo;exact⟨h.inv,h.cm,h.par,h.sp,h.pre,h.sub,h.nod,h.lenE,h.up,by omega,by omega,by omega,h.cl.next ⟨pt,hq,.inr (.inr (.inr ⟨hk,rfl,.inl ⟨hm,rfl⟩⟩))⟩,Pl.qnl h.wf hq hi (.inr (.inr hk)),fun R2 f e ht=>h.th _ _ _ (ht.absent hi hq hk (by rw[hN];exact hm))⟩
theorem Tq.secBad(h:Tq K RR R0 R E0 E r0 r j off len i x0 x p)(hq:(Pl.qab K.S j)[i]?=some pt)(hi:i<off+len)(hk:pt.kind=3∨pt.kind=4)(hm:i<pt.mate∧pt.mate<off+len)(ht:ThP K RR R R1 E E1 r r1 j (i+1) (pt.mate - (i+1)) x F p' ok)(hf:F.code≠0):ThP K RR R0 R1 E0 E1 r0 r1 j off len x0 F p false:=by
 have:=h.le;have:=h.lo;have:=ht.le;have:=h.lenE;have:=ht.lenE;have:=h.pre.length_le;have:=ht.pre.length_le;obtain⟨e,h1,_⟩:=ht.th;rw[show i+1+(pt.mate - (i+1))=pt.mate by omega]at h1;exact⟨ht.inv,h.pre.trans ht.pre,ht.sub,ht.nod,by omega,Nat.le_trans h.up ht.up,by omega,h.sp.le ht.up,Option.none,h.th _ _ _ (Pl.Th.secBad hi hq hk h1 hf),fun q=>(by cases q),fun _=>rfl⟩
theorem Tq.branch(h:Tq K RR R0 R E0 E r0 r j off len i x0 x p)(hq:(Pl.qab K.S j)[i]?=some pt)(hi:i<off+len)(hk:pt.kind=3∨pt.kind=4)(hm:i<pt.mate∧pt.mate<off+len)(ht:ThP K RR R R1 E E1 r r1 j (i+1) (pt.mate - (i+1)) x F p' true)(hf:F.code=0)(hv:p'.view≠p.view):ThP K RR R0 R1 E0 E1 r0 r1 j off len x0 ⟨3,13,Pl.qep K.S j,pt.pos⟩ p false:=by
 have:=h.le;have:=h.lo;have:=ht.le;have:=h.lenE;have:=ht.lenE;have:=h.pre.length_le;have:=ht.pre.length_le;obtain⟨e,h1,h2,_⟩:=ht.th;obtain⟨y,rfl,h3,h4⟩:=h2 rfl;rw[show i+1+(pt.mate - (i+1))=pt.mate by omega]at h1;exact⟨ht.inv,h.pre.trans ht.pre,ht.sub,ht.nod,by omega,Nat.le_trans h.up ht.up,by omega,h.sp.le ht.up,Option.none,h.th _ _ _ (Pl.Th.branch hi hq hk h1 hf fun q=>hv (by rw[Pl.qc6 _ _ h4.fit.fit.ok h3,Pl.qc6 _ _ h.cm.fit.fit.ok h.par,q])),fun q=>(by cases q),fun _=>rfl⟩
theorem Tq.sec(h:Tq K RR R0 R E0 E r0 r j off len i x0 x p)(hq:(Pl.qab K.S j)[i]?=some pt)(hi:i<off+len)(hk:pt.kind=3∨pt.kind=4)(ht:ThP K RR R R1 E E1 r r1 j (i+1) (pt.mate - (i+1)) x F p' ok)(hf:F.code=0)(hv:ok=true→p'.view=p.view):Tq K RR R0 R1 E0 E1 r0 r1 j off len (pt.mate+1) x0 x p:=by
 obtain⟨m1,m2,_,m4⟩:=Pl.q2q h.wf hq hi hk;have:=h.le;have:=h.lo;have:=ht.le;have:=h.lenE;have:=ht.lenE;have:=h.pre.length_le;have:=ht.pre.length_le;obtain⟨e,h1,h2,h3⟩:=ht.th;rw[show i+1+(pt.mate - (i+1))=pt.mate by omega]at h1;refine⟨ht.inv,h.cm,h.par,h.sp.le ht.up,h.pre.trans ht.pre,ht.sub,ht.nod,by omega,Nat.le_trans h.up ht.up,by omega,by omega,by omega,h.cl.next ⟨pt,hq,.inr (.inr (.inl ⟨hk,.inr rfl,rfl⟩))⟩,m4,fun R2 f e' q=>h.th _ _ _ (Pl.Th.sec hi hq hk m2 h1 hf ?_ q)⟩;cases ok with
 | false=>exact .inl (h3 rfl)
 | true=>
   obtain⟨y,rfl,h4,h5⟩:=h2 rfl;refine .inr (congrArg some (Pl.qs0 h5 h.cm ?_));rw[←Pl.qc6 _ _ h5.fit.fit.ok h4,←Pl.qc6 _ _ h.cm.fit.fit.ok h.par];exact hv rfl
theorem Tq.old(h:Tq K RR R0 R E0 E r0 r j off len i x0 x p)(ha:(m,x)∈R):Vq K RR R R E E r r m x Pl.Ft.none:=
 ⟨h.inv,List.prefix_refl _,h.sub,h.nod,Nat.le_refl _,Nat.le_refl _,by omega,.inl ⟨ha,rfl,rfl⟩⟩
theorem Vq.new(Ha:(m,x)∉R)(ht:ThP K RR (R++[(m,x)]) R1 E E1 r r1 (m+1) 0 (Pl.qab K.S (m+1)).length x F p' ok)(hl:(Pl.qab K.S (m+1)).length≤2000):Vq K RR R R1 E E1 r r1 m x F:=by
 have hp:=ht.pre.length_le;have ha:=ht.le;rw[List.length_append]at hp ha;simp only[List.length_cons,List.length_nil]at hp ha;obtain⟨e,h1,_⟩:=ht.th;rw[Nat.zero_add]at h1;exact⟨ht.inv,(List.prefix_append _ _).trans ht.pre,ht.sub,ht.nod,ht.lenE,ht.up,by omega,.inr ⟨Ha,e,h1⟩⟩
theorem Tq.callBad(hN:Pl.nmOf K.S=K.nm)(h:Tq K RR R0 R E0 E r0 r j off len i x0 x p)(hq:(Pl.qab K.S j)[i]?=some pt)(hi:i<off+len)(hk:pt.kind=6)(hm:Pl.qca K.nm pt.text=some m)(hv:Vq K RR R R1 E E1 r r1 m x F)(hf:F.code≠0):ThP K RR R0 R1 E0 E1 r0 r1 j off len x0 F p false:=by
 have:=h.le;have:=h.lo;have:=hv.le;have:=h.lenE;have:=hv.lenE;have:=h.pre.length_le;have:=hv.pre.length_le;exact⟨hv.inv,h.pre.trans hv.pre,hv.sub,hv.nod,by omega,Nat.le_trans h.up hv.up,by omega,h.sp.le hv.up,Option.none,h.th _ _ _ (Pl.Th.callBad hi hq hk (by rw[hN];exact hm) hv.vs hf),fun q=>(by cases q),fun _=>rfl⟩
theorem Tq.call(hN:Pl.nmOf K.S=K.nm)(h:Tq K RR R0 R E0 E r0 r j off len i x0 x p)(hq:(Pl.qab K.S j)[i]?=some pt)(hi:i<off+len)(hk:pt.kind=6)(hm:Pl.qca K.nm pt.text=some m)(hv:Vq K RR R R1 E E1 r r1 m x F)(hf:F.code=0)(hd:Pl.Done K.bd m x y)(hp:Pl.ParX y p')(hc:Pl.Cm y)(ha:Pl.EInv K.bd RR r2 E2 [])(hs:Pl.SpOk r2 p')(hl:E1.length≤E2.length)(hu:r1≤r2)(hr:r2≤r1+4000000*(E2.length - E1.length)+0) :
  Tq K RR R0 R1 E0 E2 r0 r2 j off len (i+1) x0 y p':=by
 have:=h.le;have:=h.lo;have:=hv.le;have:=h.lenE;have:=hv.lenE;have:=h.pre.length_le;have:=hv.pre.length_le;have:=h.up;have:=hv.up;exact⟨ha,hc,hp,hs,h.pre.trans hv.pre,hv.sub,hv.nod,by omega,by omega,by omega,by omega,by omega,h.cl.next ⟨pt,hq,.inr (.inr (.inr ⟨hk,rfl,.inr ⟨m,hm,hd⟩⟩))⟩,Pl.qnl h.wf hq hi (.inr (.inr hk)),fun R2 f e ht=>h.th _ _ _ (Pl.Th.call hi hq hk (by rw[hN];exact hm) hv.vs hf (by rw[zag hN];exact hd) ht)⟩
theorem Tq.never(hN:Pl.nmOf K.S=K.nm)(h:Tq K RR R0 R E0 E r0 r j off len i x0 x p)(hq:(Pl.qab K.S j)[i]?=some pt)(hi:i<off+len)(hk:pt.kind=6)(hm:Pl.qca K.nm pt.text=some m)(hv:Vq K RR R R1 E E1 r r1 m x F)(hf:F.code=0)(hd:∀y,¬Pl.Done K.bd m x y)(ha:Pl.EInv K.bd RR r2 E2 [])(hl:E1.length≤E2.length)(hu:r1≤r2)(hr:r2≤r1+4000000*(E2.length - E1.length)+0) :
  ThP K RR R0 R1 E0 E2 r0 r2 j off len x0 Pl.Ft.none p false:=by
 have:=h.le;have:=h.lo;have:=hv.le;have:=h.lenE;have:=hv.lenE;have:=h.pre.length_le;have:=hv.pre.length_le;have:=h.up;have:=hv.up;exact⟨ha,h.pre.trans hv.pre,hv.sub,hv.nod,by omega,by omega,by omega,h.sp.le (by omega),Option.none,h.th _ _ _ (Pl.Th.never hi hq hk (by rw[hN];exact hm) hv.vs hf (by rw[zag hN];exact hd)),fun q=>(by cases q),fun _=>rfl⟩
theorem Tq.names(h:Tq K RR R0 R E0 E r0 r j off len i x0 x p)(hq:(Pl.qab K.S j)[i]?=some pt)(hk:pt.kind=6)(hm:Pl.qca K.nm pt.text=some m):(m,x)∈RR:=h.cl.here ⟨pt,hq,hk,hm⟩
end
theorem q43{o:Nat}{l:List Pl.Pt}(h:Pl.Wf o l):∀(i:Nat) (p:Pl.Pt),l[i]?=some p→(p.kind=3∨p.kind=4)→∀q,l[p.mate - o]?=some q→q.kind=5:=by
 induction h with
 | nil o=>intro i p hp;simp at hp
 | leaf o q l hk hw ih=>
   intro i p hp ha u hu;cases i with
   | zero=>simp at hp;subst hp;omega
   | succ i=>
     have hp:l[i]?=some p:=by simpa using hp
     have:=(qhh hw i p hp ha).1;rw[show p.mate - o=(p.mate - (o+1))+1 by omega,List.getElem?_cons_succ]at hu;exact ih i p hp ha u hu
 | sec o q z b l hq hz h1 h2 hb hl ihb ihl=>
   intro i p hp ha u hu;have e:q::b++z::l=q::(b++z::l):=by simp
   rw[e]at hp hu;cases i with
   | zero=>
     simp only[List.getElem?_cons_zero,Option.some.injEq]at hp;subst hp;rw[h1,show o+1+b.length - o=b.length+1 by omega,List.getElem?_cons_succ,List.getElem?_append_right (Nat.le_refl _),Nat.sub_self]at hu;simp at hu;rw[←hu];exact hz
   | succ i=>
     simp only[List.getElem?_cons_succ]at hp;rw[List.getElem?_append]at hp;split at hp
     ·have hm:=qhh hb i p hp ha
      rw[show p.mate - o=(p.mate - (o+1))+1 by omega,List.getElem?_cons_succ,List.getElem?_append_left (by omega)]at hu;exact ihb i p hp ha u hu
     ·rename_i hi
      cases hx:i - b.length with
      | zero=>rw[hx]at hp;simp at hp;subst hp;omega
      | succ j=>
        rw[hx]at hp;have hp:l[j]?=some p:=by simpa using hp
        have hm:=qhh hl j p hp ha;rw[show p.mate - o=(p.mate - (o+b.length+2)+1+b.length)+1 by omega,List.getElem?_cons_succ,List.getElem?_append_right (by omega),show p.mate - (o+b.length+2)+1+b.length - b.length=(p.mate - (o+b.length+2))+1 by omega,List.getElem?_cons_succ]at hu;exact ihl j p hp ha u hu
theorem q7s{o:Nat}{l:List Pl.Pt}(h:Pl.Wf o l):∀(i:Nat) (p:Pl.Pt),l[i]?=some p→(p.kind=3∨p.kind=4)→∀(k:Nat) (q:Pl.Pt),i<k→o+k<p.mate→l[k]?=some q→(q.kind=3∨q.kind=4)→q.mate<p.mate:=by
 induction h with
 | nil o=>intro i p hp;simp at hp
 | leaf o q l hk hw ih=>
   intro i p hp Ha k u hk hm hu ha;obtain⟨k,rfl⟩:∃c,k=c+1:=⟨k - 1,by omega⟩;cases i with
   | zero=>simp at hp;subst hp;omega
   | succ i=>exact ih i p (by simpa using hp) Ha k u (by omega) (by omega) (by simpa using hu) ha
 | sec o q z b l hq hz h1 h2 hb hl ihb ihl=>
   intro i p hp Ha k u hk hm hu ha;have e:q::b++z::l=q::(b++z::l):=by simp
   rw[e]at hp hu;obtain⟨k,rfl⟩:∃c,k=c+1:=⟨k - 1,by omega⟩;rw[List.getElem?_cons_succ]at hu;cases i with
   | zero=>
     simp only[List.getElem?_cons_zero,Option.some.injEq]at hp;subst hp;rw[List.getElem?_append_left (by omega)]at hu;have:=qhh hb k u hu ha;omega
   | succ i=>
     simp only[List.getElem?_cons_succ]at hp;rw[List.getElem?_append]at hp;split at hp
     ·have:=qhh hb i p hp Ha
      rw[List.getElem?_append_left (by omega)]at hu;exact ihb i p hp Ha k u (by omega) (by omega) hu ha
     ·rename_i hi
      cases hx:i - b.length with
      | zero=>rw[hx]at hp;simp at hp;subst hp;omega
      | succ c=>
        rw[hx]at hp;rw[List.getElem?_append_right (by omega),show k - b.length=(k - b.length - 1)+1 by omega,List.getElem?_cons_succ]at hu;exact ihl c p (by simpa using hp) Ha (k - b.length - 1) u (by omega) (by omega) hu ha
theorem qy4:(Tryz.prog.info? 143).map (fun i=>(i.zero,i.size,i.bytes))=some (some (.agg #[.int .i64 0,.int .i64 0,.int .i64 0,.int .i64 0,.int .i64 0,.int .i64 0,.int .i64 0,.int .i64 0,.string ⟨#[]⟩,.bool false]),10,88):=by kernel_rfl
theorem qnk{w:World}{B k n:Nat}{e:TypeId}{v:Value}{xs:List Value}(h:w.ownsRow B e k v n xs):∃ao cap,v=.slice ao n cap∧SlOf v n 0 n (.slice ao n cap):=by
 rcases h.2 with ⟨h1,h2⟩ | ⟨g,cap,cur,hv,_,_,hc,_⟩
 ·exact⟨none,0,by rw[h1,h2],_,_,rfl,by omega,fun q=>by omega⟩
 ·exact⟨_,_,hv,_,_,rfl,hc,fun _=>⟨g,cap,hv,by rw[Nat.zero_mul]⟩⟩
theorem qk5{K:Sk}{w w5:World}{gw:Nat}{ve vS:Value}{E E5:List Pl.Et}{R R5:List Pl.Vt}{F:Pl.Ft}{r r5 j off len:Nat}{x:Pl.Sx}{p p5:Pl.Sp}{ok:Bool}{a:Act}(hB:K.B≤w.heap.size)(hm:Tm K w w5 gw ve vS E5 R5 F p)(ht:TrP K R R5 E E5 r r5 j off len x)(h6:a.tmps.getD 6 undef=.pointer (some ⟨w.heap.size+1,0,none⟩))(h7:a.tmps.getD 7 undef=.bool ok)(hd:a.defers=[]) :
  bodyPost Tryz.prog Tryz.f33 (fun e w'=>TrO K w gw E R r j off len x F e w') .ret a (set6 w5 (w.heap.size+1) (.int .i64 p5.mode) (.string ⟨p5.tag.toArray⟩) (.string ⟨p5.attr.toArray⟩) (.string ⟨p5.inside.toArray⟩) (.string ⟨p5.run.toArray⟩) (.int .i64 p5.far)):=by
 have ho:=hm.out hB (.int .i64 p5.mode) (.string ⟨p5.tag.toArray⟩) (.string ⟨p5.attr.toArray⟩) (.string ⟨p5.inside.toArray⟩) (.string ⟨p5.run.toArray⟩) (.int .i64 p5.far);refine qbm Tryz.results33 (w.heap.size+1) _ Tryz.underlying94 rfl (by kernel_rfl) h6 ⟨_,_,hm.res,rfl⟩ hd _ _ _ _ _ _ _ h7 ?_;exact⟨p5,ok,ve,vS,E5,R5,r5,rfl,ho.1,ho.2,ht⟩
def q1q(S:List Pl.Src)(N:List ByteArray)(R:List Pl.Vt):Prop:=R.length≤256∧(∀u∈R,Pl.Cm u.2∧u.1<N.length)∧Pl.Cl (fun n=>Pl.its (N.map fun y=>y.data.toList) (Pl.qab S (n+1))) (N.map fun y=>y.data.toList) (Pl.qab S 0) R 0 Pl.Sx.start∧∀v∈R,Pl.Cl (fun n=>Pl.its (N.map fun y=>y.data.toList) (Pl.qab S (n+1))) (N.map fun y=>y.data.toList) (Pl.qab S (v.1+1)) R 0 v.2
def q4z(w:World)(T:ByteArray)(L:List (ByteArray×ByteArray))(e:Ending)(w':World):Prop:=
 (∃b:Bool,e=.returned (.bool b)∧(b=false→(tkF T L).1.code=0→∃R,q1q (tkF T L).2 (L.map (·.1)) R)∧(b=true→L≠[]))∧Below w.heap.size w w'
theorem q7w{T:ByteArray}{L:List (ByteArray×ByteArray)}(h:(tkF T L).1.code=0):(L.map (·.1)).length≤6∧(tkF T L).2.length=(L.map (·.1)).length+1∧SrcsOk (tkF T L).2:=by
 unfold tkF at h ⊢;by_cases hf:qbq L=false
 ·rw[if_pos hf]at h;cases h
 rw[if_neg hf]at h ⊢;have hf:qbq L=true:=by simpa using hf
 unfold qbq at hf;rw[Bool.and_eq_true,decide_eq_true_eq]at hf;have hp:(qaq L).map (·.1)=qbh L:=by unfold qaq qbh;rw[List.map_map];rfl
 refine⟨by rw[List.length_map];exact hf.1,?_,q2m _ _ (by unfold qaq;rw[List.length_map];exact hf.1) (by rw[hp];exact hf.2) h⟩;have:=(Pl.qjw _ h).1;rw[this];simp[qaq]
theorem q7r(Hu:q40)(Hv:∀K,SkOk K→∀k,qzm K k)(T:ByteArray)(v:Value)(L:List (ByteArray×ByteArray))(w:World)(hA:qjz w v L)(ho:∀p∈L,p.1.size≤1000000000) :
  Calls Tryz.prog 18 #[.string T,v] w fun e w'=>q4z w T L e w':=by
 have hT:=qti Hu T v L w hA ho;obtain⟨ao,cap,hv,_⟩:=hA;subst hv;have Hg:=@q7w T L;generalize hQ:(fun(e:Ending) (w':World)=>q4z w T L e w')=Q;have HQ:=hd hQ;unfold q4z at HQ;unfold qpp at hT;generalize tkF T L=Z at hT Hg HQ;obtain⟨⟨c,kd,pl,ps⟩,S⟩:=Z;simp only at hT Hg HQ;unfold qkq bs at hT;have HT:=hd hT;have hw:=hd Hg;clear hT hQ Hg ho;go_enter Tryz.func18,Tryz.ntmps18
 go_upto_region 2 with (go_at_call 32;refine Calls.mono HT.out ?_;rintro e w1 ⟨⟨p,rfl,hp⟩,hb⟩;have HP:=hd hp;have HB:=hd hb;clear hp hb;dsimp only)
 have hg:=hd (HB.out.alloc (o:=.cells #[.int .i64 c,.int .i64 kd,.string ⟨pl.toArray⟩,.int .i64 ps] 31) HB.out.size);have Hi:=qaa (heap_alloc_new w1 (.cells #[.int .i64 c,.int .i64 kd,.string ⟨pl.toArray⟩,.int .i64 ps] 31)) 0 _ rfl;have HX:=(show Hid _ from(Below.refl w1.heap.size w1).alloc (Nat.le_refl _) (.cells #[.int .i64 c,.int .i64 kd,.string ⟨pl.toArray⟩,.int .i64 ps] 31));generalize World.alloc w1 _=w2 at hg HX Hi ⊢;generalize w1.heap.size=FB at Hi ⊢;by_cases hc:c=0
 rotate_left
 ·have Hy:((c:Int)==0)=false:=beq_eq_false_iff_ne.2 (by omega)
  have HC:=hd hc;clear hc;go_wp2_with fail
  rw[←HQ.out];exact⟨⟨false,rfl,fun _ h=>absurd h HC.out,fun h=>nomatch h⟩,hg.out⟩
 subst hc;obtain⟨g,pv,RL,vp,rfl,Ho⟩:=HP.out rfl;obtain⟨Hp,Hq,hi⟩:=hw.out rfl;obtain⟨K,Ha⟩:∃K:Sk,K=⟨w.heap.size,g,S,L.map (·.1),pv,RL,vp⟩:=⟨_,rfl⟩;have hK:SkOk K:=by rw[Ha];exact⟨Hp,Hq,hi⟩
 obtain⟨s0,Hc⟩:∃s0,S[0]?=some s0:=⟨_,List.getElem?_eq_getElem (by omega)⟩;have He:Pl.qab K.S 0=s0.parts:=by rw[Ha];unfold Pl.qab;simp only[Hc]
 have Hw:=(hi.parts 0 s0 Hc).1;have hr:=hi.wf 0 s0 Hc;have Hb:K.at_ w2 (.slice none 0 0) []:=by rw[Ha];exact⟨Ho.kept HX.out,World.ownsRow_nil _ _ _ _⟩
 have hj:=(Hb.tp.row 0 s0 (by rw[Ha];exact Hc)).1;rw[(Hb.tp.row 0 s0 (by rw[Ha];exact Hc)).2.len]at hj;obtain⟨ao2,cap2,Hj,Hk⟩:=qnk hj;rw[←He]at Hk;have hl:K.g=g:=by rw[Ha]
 have Hl:K.B=w.heap.size:=by rw[Ha]
 have hf:Hid (WkAt K (w2.alloc (.cells #[.pointer (some ⟨K.g,0,none⟩),.slice none 0 0,.int .i64 0,.int .i64 0,.string ⟨#[]⟩,.int .i64 0] 92)) w2.heap.size (.slice none 0 0) (.slice none 0 0) [] [] ⟨0,0,[],0⟩):=
  ⟨Hb.kept (ba _),heap_alloc_new _ _,by rw[Hl];exact hg.out.size,World.ownsRow_nil _ _ _ _⟩
 have Hf:=(show Hid (Below w.heap.size w (w2.alloc (.cells #[.pointer (some ⟨K.g,0,none⟩),.slice none 0 0,.int .i64 0,.int .i64 0,.string ⟨#[]⟩,.int .i64 0] 92))) from hg.out.alloc hg.out.size _);have HN:=hd (fun(W':World) (hW:WkAt K W' w2.heap.size (.slice none 0 0) (.slice none 0 0) [] [] ⟨0,0,[],0⟩)=>Hv K hK 1000000 W' w2.heap.size (.slice none 0 0) (.slice none 0 0) (.slice ao2 (Pl.qab K.S 0).length cap2) [] [] 0 0 0 _ Pl.Sx.start Pl.Sp.start ⟨0,0,[],0⟩ hW Hk (Nat.zero_le _) (by rw[Nat.zero_add];exact Nat.le_refl _) ⟨fun q hq=>(by rw[Nat.zero_add,List.getElem?_eq_none (Nat.le_refl _)]at hq;cases hq),fun i q _ _ h3 h4=>(by rw[He]at h3 ⊢;have:=qhh hr i q h3 h4;omega)⟩ ⟨fun e he=>absurd he List.not_mem_nil,List.nodup_nil,fun u hu=>absurd hu List.not_mem_nil⟩ Pl.qnu Pl.ql3 (Pl.qjo 0) (fun u hu=>absurd hu List.not_mem_nil) (by simp) (Nat.le_trans hW.le (Nat.le_of_lt (lta hW.blk))) (by rw[He];simp;omega) (by rw[He];simp;omega));rw[He]at HN;unfold qat qag at HN;have Hr:=(show Hid (K=⟨w.heap.size,g,S,L.map (·.1),pv,RL,vp⟩) from Ha);have hz:=hd He;rw[hl]at hf Hf;go_upto_region 5 with fail
 generalize w2.heap.size=gw at hf HN ⊢;generalize World.alloc w2 _=w3 at hf Hf HN ⊢;have hs:=(lta hf.out.at_.tp.blk);have c0:=(qaa hf.out.at_.tp.blk 0 _ rfl).trans (congrArg some Hj);have c0':=fun o=>(qaa ((heap_alloc_old w3 o hs).trans hf.out.at_.tp.blk) 0 _ rfl).trans (congrArg some Hj);rw[hl]at c0 c0';have hm:=(show Hid (Below w3.heap.size w3 (w3.alloc (.cells #[.int .i64 1,.string ⟨#[]⟩,.string ⟨#[]⟩,.string ⟨#[]⟩,.string ⟨#[]⟩,.int .i64 0] 94)).drew) from(ba _).drew);have Hz:=hd Hc;clear hK He Hw hr Hb hj Hk Ha hl Hp Hq hi Ho Hj hs Hi Hc;go_region_with (first | (go_at_call 34;refine(qia _).mono ?_;rintro e w4 ⟨rfl,rfl⟩) | (go_at_call 33;refine Calls.mono (HN.out _ (hf.out.kept hm.out)) ?_;rintro e w5 ⟨p5,ok5,ve5,vS5,E5,R5,r5,rfl,Hm,Hs,ht⟩;dsimp only))
 all_goals
  obtain⟨aoS,capS,hx⟩:=qar Hm.seen;subst hx;have s1:=qaa Hm.blk 1 _ rfl;have Ht:=hd Hs.below;have hn:=hd ht;clear Hm Hs ht;have Hn:Hid (R5.length≤256→q1q S (L.map (·.1)) R5):=fun h6=>by
   have h:=hn.out.cl h6;have ha:=hn.out.all;have hk:=Hr.out;subst hk;exact⟨h6,ha,h.1,fun v hv=>h.2 v hv List.not_mem_nil⟩
  have Hx:Hid (¬R5.length≤256→L≠[]):=fun h6 q=>by
   have ha:=hn.out.all;have hk:=Hr.out;subst hk q;cases R5 with
   | nil=>exact h6 (Nat.zero_le _)
   | cons u R=>have:=(ha u List.mem_cons_self).2;simp at this
  by_cases h6:R5.length≤256
  ·have hy:¬(R5.length:Int) > 256:=by omega
   go_wp2_with fail
   rw[←HQ.out];exact⟨⟨false,rfl,fun _ _=>⟨R5,Hn.out h6⟩,fun h=>nomatch h⟩,Hf.out.trans (((Below.mono hm.out Hf.out.size).trans (by rw[←Hl];exact Ht.out)))⟩
  ·have hy:(R5.length:Int) > 256:=by omega
   go_wp2_with fail
   rw[←HQ.out];exact⟨⟨true,rfl,(fun h=>nomatch h),fun _=>Hx.out h6⟩,Hf.out.trans (((Below.mono hm.out Hf.out.size).trans (by rw[←Hl];exact Ht.out)))⟩
theorem qrw{T:ByteArray}{L:List (ByteArray×ByteArray)}(h:(tkF T L).1.code=0):Pl.nmOf (tkF T L).2=(L.map (·.1)).map (fun y=>y.data.toList)∧Pl.qep (tkF T L).2 0=[]:=by
 unfold tkF at h ⊢;by_cases hf:qbq L=false
 ·rw[if_pos hf]at h;cases h
 rw[if_neg hf]at h ⊢;rw[(Pl.qjw _ h).1];refine⟨?_,rfl⟩;unfold Pl.nmOf qaq;simp[List.map_map,Function.comp_def]
theorem q3g(T:ByteArray)(L:List (ByteArray×ByteArray)):(Pl.qe7 T.data.toList (qaq L)).2=if(tkF T L).1.code≠0 then(tkF T L).1 else if(Pl.qec (tkF T L).2 T.data.toList.length).2.code≠0 then(Pl.qec (tkF T L).2 T.data.toList.length).2 else Pl.Ft.none:=by
 have hp:(qaq L).map (·.1)=qbh L:=by unfold qaq qbh;rw[List.map_map];rfl
 have hl:(qaq L).length=L.length:=by unfold qaq;rw[List.length_map]
 unfold Pl.qe7 tkF;rw[hp,hl];by_cases hf:qbq L=false
 ·have hc:6<L.length∨Pl.qg5 (qbh L)=false:=by
   rcases Nat.lt_or_ge 6 L.length with h | h
   ·exact .inl h
   ·unfold qbq at hf
    rw[decide_eq_true h,Bool.true_and]at hf;exact .inr hf
  rw[if_pos hf,if_pos hc];rfl
 ·have hc:¬(6<L.length∨Pl.qg5 (qbh L)=false):=by
   have hf:qbq L=true:=by simpa using hf
   unfold qbq at hf;rw[Bool.and_eq_true,decide_eq_true_eq]at hf;rintro(h | h)
   ·omega
   ·rw[hf.2]at h;cases h
  rw[if_neg hf,if_neg hc];by_cases h1:(Pl.qa4 (([],T.data.toList)::qaq L)).1.code≠0
  ·rw[if_pos h1,if_pos h1]
  rw[if_neg h1,if_neg h1];by_cases h2:(Pl.qec (Pl.qa4 (([],T.data.toList)::qaq L)).2 T.data.toList.length).2.code≠0
  ·rw[if_pos h2,if_pos h2]
  ·rw[if_neg h2,if_neg h2]
theorem q8j{T:ByteArray}{L:List (ByteArray×ByteArray)}{RR R:List Pl.Vt}{f:Pl.Ft}{e:Option Pl.Sx}(hc:(tkF T L).1.code=0)(hR:q1q (tkF T L).2 (L.map (·.1)) RR)(h:Pl.Th (tkF T L).2 0 0 (Pl.qab (tkF T L).2 0).length Pl.Sx.start [] R f e) :
  (f.code≠0→(Pl.qe7 T.data.toList (qaq L)).2=f)∧(f.code=0→(∀y,e=some y→y≠Pl.Sx.start→(Pl.qe7 T.data.toList (qaq L)).2=⟨3,15,[],T.size⟩)∧((e=Option.none∨e=some Pl.Sx.start)→(Pl.qe7 T.data.toList (qaq L)).2=Pl.Ft.none)):=by
 obtain⟨hn,h0⟩:=qrw hc;obtain⟨_,ha,Ha⟩:=q7w hc;rw[q3g,if_neg (by omega)];obtain⟨r1,r2,r3,r4⟩:=hR;rw[←hn]at r3 r4;obtain⟨n,h⟩:=h;have hl:=Pl.q8k (RR:=RR) (fun i=>by
  cases hs:(tkF T L).2[i]? with
  | none=>unfold Pl.qab;rw[hs];exact .nil 0
  | some s=>unfold Pl.qab;rw[hs];exact Ha.wf i s hs) (by omega) r1 r4 r3 h T.data.toList.length
 rw[h0]at hl;refine⟨fun q=>?_,fun q=>⟨fun y hy hb=>?_,fun he=>?_⟩⟩
 ·rw[hl.1 q,if_pos q]
 ·rw[(hl.2 q).1 y hy hb,if_pos (by simp)];simp
 ·rw[(hl.2 q).2 he,if_neg (by simp[Pl.Ft.none])]
def setF(w:World)(gw:Nat)(kd:Int)(wh:ByteArray)(a:Nat):World:=(((w.setCell ⟨gw,2,none⟩ (.int .i64 3)).setCell ⟨gw,3,none⟩ (.int .i64 kd)).setCell ⟨gw,4,none⟩ (.string wh)).setCell ⟨gw,5,none⟩ (.int .i64 a)
theorem q5i{w:World}{gw k:Nat}(h:k≠gw)(kd:Int)(wh:ByteArray)(a:Nat):(setF w gw kd wh a).heap[k]?=w.heap[k]?:=by
 unfold setF;rw[Below.heap_setCell _ _ _ _ h,Below.heap_setCell _ _ _ _ h,Below.heap_setCell _ _ _ _ h,Below.heap_setCell _ _ _ _ h]
theorem WkAt.wrong{K:Sk}{w:World}{gw:Nat}{ve vS:Value}{E:List Pl.Et}{R:List Pl.Vt}{F:Pl.Ft}(h:WkAt K w gw ve vS E R F)(kd:Int)(wh:ByteArray)(a:Nat):WkAt K (setF w gw kd wh a) gw ve vS E R ⟨3,kd,wh.data.toList,a⟩∧Cw K.B w (setF w gw kd wh a):=by
 have Ha:∀(k:Nat) (cs:Array Value) (t:TypeId) (fz:Nat×Nat),w.heap[k]?=some (.cells cs t fz)→t≠92→(setF w gw kd wh a).heap[k]?=w.heap[k]?:=fun k cs t fz hk ht=>q5i (qae hk h.blk ht) _ _ _;have ha:∀(e:TypeId) (sz n:Nat) (v:Value) (xs:List Value),w.ownsRow K.B e sz v n xs→e≠92→(setF w gw kd wh a).ownsRow K.B e sz v n xs:=fun e sz n v xs hv he=>qac hv fun k hk=>by
  obtain⟨cur,hc⟩:=qad hv k hk;exact Ha _ _ _ _ hc he
 have h1:=heap_setCell_same w gw 2 _ _ (.int .i64 3) h.blk;have h2:=heap_setCell_same _ gw 3 _ _ (.int .i64 kd) h1;have h3:=heap_setCell_same _ gw 4 _ _ (.string wh) h2;have h4:=heap_setCell_same _ gw 5 _ _ (.int .i64 a) h3;refine⟨⟨⟨⟨(Ha _ _ _ _ h.at_.tp.blk (by decide)).trans h.at_.tp.blk,h.at_.tp.le,ha _ _ _ _ _ h.at_.tp.parts (by decide),fun i s hs=>⟨ha _ _ _ _ _ (h.at_.tp.row i s hs).1 (by decide),(h.at_.tp.row i s hs).2⟩⟩,ha _ _ _ _ _ h.at_.ends (by decide)⟩,h4,h.le,ha _ _ _ _ _ h.seen (by decide)⟩,((((Below.refl K.B w).setCell h.le _).setCell h.le _).setCell h.le _).setCell h.le _,fun k cs t fz hk ht=>Ha k cs t fz hk ht.2.1⟩
theorem ThP.fault{K:Sk}{RR R0 R:List Pl.Vt}{E0 E:List Pl.Et}{r0 r j off len:Nat}{x0:Pl.Sx}{F:Pl.Ft}{p':Pl.Sp}{ok:Bool}(h:ThP K RR R0 R E0 E r0 r j off len x0 F p' ok):F=Pl.Ft.none∨F.code≠0:=by
 obtain⟨e,⟨n,q⟩,_⟩:=h.th;exact Pl.qhs _ _ _ _ _ _ _ _ _ _ q
theorem qrj(K:Sk)(w:World)(gw:Nat)(ve vS:Value)(E:List Pl.Et)(R:List Pl.Vt)(F:Pl.Ft)(kd:Int)(wh:ByteArray)(a:Nat)(hw:WkAt K w gw ve vS E R F) :
  Calls Tryz.prog 42 #[.pointer (some ⟨gw,0,none⟩),.int .i64 kd,.string wh,.int .i64 a] w fun e w'=>e=.returned (.tuple #[])∧WkAt K w' gw ve vS E R ⟨3,kd,wh.data.toList,a⟩∧Cw K.B w w':=by
 obtain⟨q0,q1,q2,q3,q4,q5⟩:=qau hw.blk;obtain⟨f0,f1,f2,f3,f4,f5⟩:=qdx hw.blk;have HW:=hd hw;clear hw;go_enter Tryz.func42,Tryz.ntmps42
 go_wp2_with fail
 all_goals go_end0
 all_goals exact⟨rfl,HW.out.wrong kd wh a⟩
end Go.Proofs.YtfkhljmiehdgmaaGreatDoor
namespace Go.Proofs.YtfkhljmiehdgmaaGreatDoor
open Go.RowKit Go.Maps
theorem q7a{v:Pl.Vw}(h:VwFit v):∃l,keyOf Tryz.prog 111 (qel v)=some l:=by
 obtain⟨d,hs⟩:∃d,Tryz.prog.types.size+1=d+2:=⟨Tryz.prog.types.size - 1,by
  have:4≤Tryz.prog.types.size:=by decide +kernel
  omega⟩
 obtain⟨l,hl⟩:=q1y d h;have hk:Tryz.prog.keyType 111=true:=by kernel_rfl
 have ha:(qel v).formed Tryz.prog 111=true:=by
  unfold qel qcu Value.formed;simp[Tryz.underlying111,qmh]
 unfold keyOf;simp only[Tryz.underlying111];rw[hk,ha,hs];unfold qel qcu;simp[Value.cells,hl]
theorem q1z{v u:Pl.Vw}(h:qel v=qel u):v=u:=by
 obtain⟨a,b,c,d,e,f,g,nm,r⟩:=v;obtain⟨a',b',c',d',e',f',g',nm',r'⟩:=u;unfold qel qcu at h;simp only[Value.agg.injEq,Array.mk.injEq,List.cons.injEq,Value.int.injEq,true_and,Value.string.injEq,Value.bool.injEq,and_true,ByteArray.mk.injEq]at h;obtain⟨h1,h2,h3,h4,h5,h6,h7,h8,h9⟩:=h;have ha:nm=nm':=by simpa using h8
 subst h1 h2 h3 h4 h5 h6 h7 ha h9;rfl
theorem qyb(w:World){v u:Pl.Vw}(hv:VwFit v)(hu:VwFit u){b:Bool}(hb:b=true↔v=u):(Op.equal 111 (qel v) (qel u)).run Tryz.prog w=.ok b w:=by
 obtain⟨lx,h1⟩:=q7a hv;obtain⟨ly,h2⟩:=q7a hu;obtain⟨r,hr,ha⟩:=run_equal_deep w (m:=4) (by decide) (by kernel_rfl) (by kernel_rfl) h1 h2;rw[hr];have:r=b:=by
  rw[Bool.eq_iff_iff,ha,hb];constructor
  ·intro e
   exact q1z (keyOf_inj_deep (m:=4) (k:=111) (by kernel_rfl) (by kernel_rfl) h1 (by rw[h2,e]))
  ·rintro rfl
   rw[h1]at h2;exact Option.some.inj h2
 rw[this]
theorem qlt(w:World)(v u:Pl.Vw)(o1 o2:Operand):(eqGuard .neq 111 o1 o2 (qel v) (qel u)).run Tryz.prog w=.ok () w:=by
 have:Tryz.prog.eqGuardType Tryz.prog.depth 111=false:=by kernel_rfl
 unfold eqGuard qel;simp[run_program,this]
theorem qya(w:World){v u:Pl.Vw}(hv:VwFit v)(hu:VwFit u){b:Bool}(hb:b=true↔v=u):(binOp .neq 111 (qel v) (qel u)).run Tryz.prog w=.ok (.bool (!b)) w:=by
 have h:=qyb w hv hu hb;unfold binOp qel;unfold qel at h;simp[h]
theorem qjk(w:World){v u:Pl.Vw}(hv:VwFit v)(hu:VwFit u){b:Bool}(hb:b=true↔v=u):(Op.equalIn 10000 111 (qel v) (qel u)).run Tryz.prog w=.ok b w:=by
 have h:=qyb w hv hu hb;unfold qel at h ⊢;simpa [Op.equal,Op.maxDepth] using h
section
variable {P:Program}{ops:Array Oper}{Q:Exit→Act→World→Prop}
end
end Go.Proofs.YtfkhljmiehdgmaaGreatDoor
