/-
  Steps of the proof.
-/
import Derived.Test.YtfkhljmiehdgmaaGreatDoorCmAB
import Derived.Maps.AppendAt
import Derived.Deep.RegionLaw
import Derived.Lib.SplitLaws
import Derived.Maps.OwnOps
set_option maxRecDepth 100000
set_option maxHeartbeats 40000000
namespace Go.Proofs.YtfkhljmiehdgmaaGreatDoor
open Go.RowKit
namespace Pl
theorem quz(b:UInt8):qcy b=(b==95 || (qjb b || (decide (97<=b.toNat) && decide (b.toNat<=122)))):=rfl
theorem q7l(f:UInt8->Bool)(s:ByteArray)(k:Nat)(h:k<s.size)(h0:(s.data.toList.take k).all f=true)(h1:f s[k]=true):(s.data.toList.take (k+1)).all f=true:=by
 rw[qc9 s k h,List.all_append,h0];simp[h1]
theorem za1(f:UInt8->Bool)(s:ByteArray)(k:Nat)(h:k<s.size)(h1:f s[k]=false):s.data.toList.all f=false:=by
 rw[qr7 s k h,List.all_append];simp[h1]
theorem q97(f:UInt8->Bool)(s:ByteArray)(k:Nat)(h:¬k<s.size)(h0:(s.data.toList.take k).all f=true):s.data.toList.all f=true:=by
 rw[<-qeu s k (by omega)];exact h0
theorem q1h(s:ByteArray)(h1:s.size≠0)(h2:s.size<=8):qa6 s.data.toList=s.data.toList.all qcy:=by
 unfold qa6;have e1:s.data.toList.isEmpty=false:=by
  rw[List.isEmpty_eq_false_iff];intro q;apply h1;have:=congrArg List.length q;simpa using this
 have e2:decide (s.data.toList.length<=8)=true:=decide_eq_true (by simpa using h2);rw[e1,e2];rfl
theorem quv(s:ByteArray)(h2:¬s.size<=8):qa6 s.data.toList=false:=by
 unfold qa6;have e2:decide (s.data.toList.length<=8)=false:=decide_eq_false (by simpa using h2);rw[e2];simp
end Pl
theorem qc7(s:ByteArray)(w:World) :
  Calls Tryz.prog 72 #[.string s] w fun e w'=>e=.returned (.bool (Pl.qa6 s.data.toList))/\w=w':=by
 by_cases h0:s.size=0
 ·obtain rfl:s=⟨#[]⟩:=ByteArray.ext (Array.eq_empty_of_size_eq_zero h0)
  go_enter Tryz.func72,Tryz.ntmps72
  go_wp2_with fail
  go_ret
  exact⟨rfl,rfl⟩
 have HE:Hid ((s.toList.isEmpty)=false):=by
  show _=_;rw[Lib.toList_data,List.isEmpty_eq_false_iff];intro q;apply h0;have:=congrArg List.length q;simpa using this
 have c0:=HE.out;by_cases h8:s.size<=8
 rotate_left
 ·have HV:=hd (Pl.quv s h8)
  have c8:(8:Int)<(s.size:Int):=by omega
  clear h8;go_enter Tryz.func72,Tryz.ntmps72
  go_wp2_with fail
  go_ret
  exact⟨qbo HV.out.symm,rfl⟩
 have HV:=hd (Pl.q1h s h0 h8);have c8:¬(8:Int)<(s.size:Int):=by omega
 go_enter Tryz.func72,Tryz.ntmps72
 go_wp2_with fail
 clear c0 c8;go_loop [14] (fun i=>∃k:Nat,k<=s.size/\i=.int .i64 k/\Hid ((s.data.toList.take k).all Pl.qcy=true)) (fun i=>s.size - (intOf i).toNat)
 case atStart=>exact⟨0,Nat.zero_le _,rfl,rfl⟩
 case round=>
  obtain⟨k,hk,rfl,HN⟩:=hrel;by_cases ha:k<s.size
  ·have HB:Hid (∀x,Pl.qcy s[k]=x->(x=true->(s.data.toList.take (k+1)).all Pl.qcy=true)/\(x=false->s.data.toList.all Pl.qcy=false)):=by
    rintro x rfl;exact⟨fun q=>Pl.q7l _ s k ha HN.out q,fun q=>Pl.za1 _ s k ha q⟩
   have HI:=hd (Pl.quz s[k]);by_cases d1:s[k]=95
   ·have HT:=(show Hid _ from(HB.out true (by rw[HI.out,d1];rfl)).1 rfl)
    have e1:(s[k].toNat:Int)=95:=by rw[d1];rfl
    clear HB HI HN d1;go_wp2_with (go_at_call 102;refine(qg5 s[k] _).mono ?_;rintro e w' ⟨rfl,rfl⟩)
    go_round
    case rel=>exact⟨k+1,by omega,by go_num,HT⟩
    case measure=>simp[intOf];omega
   ·have e1:¬(s[k].toNat:Int)=95:=fun q=>d1 (UInt8.toNat_inj.1 (show s[k].toNat=95 by omega))
    by_cases d2:Pl.qjb s[k]=true
    ·have HT:=(show Hid _ from(HB.out true (by rw[HI.out,d2];simp)).1 rfl)
     clear HB HI HN d1;go_wp2_with (go_at_call 102;refine(qg5 s[k] _).mono ?_;rintro e w' ⟨rfl,rfl⟩;rw[d2])
     go_round
     case rel=>exact⟨k+1,by omega,by go_num,HT⟩
     case measure=>simp[intOf];omega
    ·have d2:=Bool.eq_false_iff.2 d2
     by_cases d3:97<=s[k].toNat
     ·by_cases d4:s[k].toNat<=122
      ·have HT:=(show Hid _ from(HB.out true (by rw[HI.out,d2];simp[d3,d4])).1 rfl)
       have e3:¬(s[k].toNat:Int)<97:=by omega
       have e4:¬(122:Int)<(s[k].toNat:Int):=by omega
       clear HB HI HN d1 d3 d4;go_wp2_with (go_at_call 102;refine(qg5 s[k] _).mono ?_;rintro e w' ⟨rfl,rfl⟩;rw[d2])
       go_round
       case rel=>exact⟨k+1,by omega,by go_num,HT⟩
       case measure=>simp[intOf];omega
      ·have HT:=(show Hid _ from(HB.out false (by rw[HI.out,d2];have:decide (s[k].toNat<=122)=false:=decide_eq_false d4;rw[this];simp[d1])).2 rfl)
       have e3:¬(s[k].toNat:Int)<97:=by omega
       have e4:(122:Int)<(s[k].toNat:Int):=by omega
       clear HB HI HN d1 d3 d4;go_wp2_with (go_at_call 102;refine(qg5 s[k] _).mono ?_;rintro e w' ⟨rfl,rfl⟩;rw[d2])
       go_ret
       exact⟨qbo (by rw[HV.out,HT.out]),rfl⟩
     ·have HT:=(show Hid _ from(HB.out false (by rw[HI.out,d2];have:decide (97<=s[k].toNat)=false:=decide_eq_false d3;rw[this];simp[d1])).2 rfl)
      have e3:(s[k].toNat:Int)<97:=by omega
      clear HB HI HN d1 d3;go_wp2_with (go_at_call 102;refine(qg5 s[k] _).mono ?_;rintro e w' ⟨rfl,rfl⟩;rw[d2])
      go_ret
      exact⟨qbo (by rw[HV.out,HT.out]),rfl⟩
  ·have HT:=hd (Pl.q97 Pl.qcy s k ha HN.out)
   clear HN;go_wp2
   go_ret
   exact⟨qbo (by rw[HV.out,HT.out]),rfl⟩
theorem qxm(s:ByteArray)(w:World) :
  Calls Tryz.prog 229 #[.string s] w fun e w'=>e=.returned (.bool (Pl.qd7 s.data.toList))/\w=w':=by
 have HV:Hid (Pl.qd7 s.data.toList=(decide (s.size<=3) && !(Pl.among 61 s.data.toList))):=by
  show _=_;unfold Pl.qd7
  congr 2
 by_cases h3:s.size<=3
 ·have c3:(s.size:Int)<=3:=by omega
  by_cases ha:Pl.among 61 s.data.toList=true
  ·have HV:Hid (Pl.qd7 s.data.toList=false):=by show _=_;rw[HV.out,ha];simp
   have HC:=hd (fun w=>qb3 61 s _ w rfl ha);clear ha;go_enter Tryz.func229,Tryz.ntmps229
   go_wp2_with (go_at_call 130;refine(HC.out _).mono ?_;rintro e w' ⟨x,hx,rfl,rfl⟩)
   go_ret
   refine⟨qbo ?_,rfl⟩;rw[HV.out];simp;omega
  ·have ha:=Bool.eq_false_iff.2 ha
   have HV:Hid (Pl.qd7 s.data.toList=true):=by show _=_;rw[HV.out,ha];simp[h3]
   have HC:=hd (fun w=>qce 61 s _ w rfl ha);clear ha;go_enter Tryz.func229,Tryz.ntmps229
   go_wp2_with (go_at_call 130;refine(HC.out _).mono ?_;rintro e w' ⟨rfl,rfl⟩)
   go_ret
   exact⟨qbo HV.out.symm,rfl⟩
 ·have c3:¬(s.size:Int)<=3:=by omega
  have HV:Hid (Pl.qd7 s.data.toList=false):=by show _=_;rw[HV.out];simp[h3]
  clear h3;go_enter Tryz.func229,Tryz.ntmps229
  go_wp2_with fail
  go_ret
  exact⟨qbo HV.out.symm,rfl⟩
variable{w w' w0:World}{B n k g:Nat}{v vp vo vp':Value}{xs:List Value}{t:List UInt8}{c:Pl.Ct}
def qdk(p:Pl.Pt):List Value:=[.int .i64 p.kind,.int .i64 p.pos,bs p.text,.int .i64 p.mate]
def qb0(L:List Pl.Pt):List Value:=L.flatMap qdk
theorem qw6(L:List Pl.Pt):(qb0 L).length=L.length*4:=by
 induction L with
 |nil=>rfl
 |cons p L ih=>show(qb0 L).length+4=_;rw[ih,List.length_cons];omega
theorem qub(L:List Pl.Pt)(p:Pl.Pt):qb0 (L++[p])=qb0 L++qdk p:=by simp[qb0]
theorem qft:∀(L:List Pl.Pt) (k:Nat) (p:Pl.Pt),L[k]?=some p->∀(j:Nat) (v:Value),(qdk p)[j]?=some v->(qb0 L)[k*4+j]?=some v
 |[],k,p,e=>by simp at e
 |q::L,0,p,e=>by
   simp only[List.getElem?_cons_zero,Option.some.injEq]at e;subst e;intro j v hv;show(qdk q++qb0 L)[0*4+j]?=some v;rw[Nat.zero_mul,Nat.zero_add,List.getElem?_append_left (List.getElem?_eq_some_iff.1 hv).1];exact hv
 |q::L,k+1,p,e=>by
   intro j v hv;have:=qft L k p (by simpa using e) j v hv;show(qdk q++qb0 L)[(k+1)*4+j]?=some v;rw[List.getElem?_append_right (by simp[qdk];omega)];have e:(k+1)*4+j - (qdk q).length=k*4+j:=by simp[qdk];omega
   rw[e];exact this
theorem qm1:∀(L:List Pl.Pt) (m n:Nat),m<L.length->(qb0 L).set (m*4+3) (.int .i64 n)=qb0 (Pl.qbc L m n)
 |[],m,n,h=>by simp at h
 |q::L,0,n,_=>rfl
 |q::L,m+1,n,h=>by
   have ih:=qm1 L m n (by simpa using h);have e:Pl.qbc (q::L) (m+1) n=q::Pl.qbc L m n:=by simp[Pl.qbc]
   rw[e];show(qdk q++qb0 L).set ((m+1)*4+3) _=qdk q++qb0 (Pl.qbc L m n);rw[List.set_append_right _ _ (by simp[qdk];omega)];have e2:(m+1)*4+3 - (qdk q).length=m*4+3:=by simp[qdk];omega
   rw[e2,ih]
def qby(L:List Nat):List Value:=L.map fun(n:Nat)=>Value.int .i64 (n:Int)
theorem qac{e:TypeId}(h:w.ownsRow B e k v n xs)(hb:∀g,v.ownBlock=some g->w'.heap[g]?=w.heap[g]?):w'.ownsRow B e k v n xs:=by
 refine⟨h.1,?_⟩;rcases h.2 with h0|⟨g,cap,cur,hv,ha,hg,rest⟩
 ·exact .inl h0
 ·exact .inr ⟨g,cap,cur,hv,ha,(hb g (by rw[hv];rfl)).trans hg,rest⟩
theorem qad{e:TypeId}(h:w.ownsRow B e k v n xs)(g:Nat)(hg:v.ownBlock=some g):∃cur,w.heap[g]?=some (.cells cur e (0,0)):=by
 rcases h.2 with⟨rfl,_⟩|⟨g',cap,cur,rfl,_,hh,_⟩
 ·simp[Value.ownBlock]at hg
 ·simp[Value.ownBlock]at hg
  subst hg;exact⟨cur,hh⟩
theorem qaj{e:TypeId}(h:w.ownsRow B e k v n xs)(hn:0<n):∃g cap,v=.slice (some ⟨g,0,none⟩) n cap/\B<=g/\g<w.heap.size:=by
 rcases h.2 with⟨_,h0⟩|⟨g,cap,cur,hv,ha,hg,rest⟩
 ·omega
 ·exact⟨g,cap,hv,ha,(Array.getElem?_eq_some_iff.1 hg).1⟩
theorem qi6{e:TypeId}{cap:Nat}(h:w.ownsRow B e k (.slice (some ⟨g,0,none⟩) n cap) n xs)(m:Nat)(hm:m<=n):w.ownsRow B e k (.slice (some ⟨g,0,none⟩) m cap) m (xs.take (m*k)):=by
 have ha:m*k<=n*k:=Nat.mul_le_mul_right k hm;refine⟨by rw[List.length_take,h.1];omega,?_⟩;rcases h.2 with⟨h0,_⟩|⟨g',cap',cur,hv,Ha,hg,h1,h2,h3,h4⟩
 ·cases h0
 ·injection hv with e1 e2 e3
  injection e1 with e1;injection e1 with e1;subst e1 e3;exact .inr ⟨g,cap,cur,rfl,Ha,hg,by omega,h2,h3,by rw[<-h4,List.take_take,Nat.min_eq_left ha]⟩
structure CtAt(w:World)(B g:Nat)(t:List UInt8)(c:Pl.Ct)(vp vo:Value):Prop where
 blk:w.heap[g]?=some (.cells #[bs t,bs c.op,bs c.cl,vp,vo] 222 (0,0))
 parts:w.ownsRow B 229 4 vp c.parts.length (qb0 c.parts)
 opened:w.ownsRow B 3 1 vo c.opened.length (qby c.opened)
 le:B<=g
structure Cur(B g:Nat)(w w':World):Prop where
 below:Below B w w'
 keep:∀k cs t fz,w.heap[k]?=some (.cells cs t fz)->k≠g->t≠229->t≠3->w'.heap[k]?=w.heap[k]?
theorem Cur.refl(B g:Nat)(w:World):Cur B g w w:=⟨Below.refl _ _,fun _ _ _ _ _ _ _ _=>rfl⟩
theorem Cur.trans{a b c:World}(h:Cur B g a b)(k:Cur B g b c):Cur B g a c:=
 ⟨h.below.trans k.below,fun i cs t fz hi h1 h2 h3=>(k.keep i cs t fz ((h.keep i cs t fz hi h1 h2 h3).trans hi) h1 h2 h3).trans (h.keep i cs t fz hi h1 h2 h3)⟩
theorem Cur.of_below(h:Below w.heap.size w w')(hB:B<=w.heap.size):Cur B g w w':=
 ⟨h.mono hB,fun k _ _ _ hk _ _ _=>h.block k (Array.getElem?_eq_some_iff.1 hk).1⟩
theorem CtAt.lt(h:CtAt w B g t c vp vo):g<w.heap.size:=(lta h.blk)
theorem CtAt.kept(h:CtAt w B g t c vp vo)(hb:∀k,k<w.heap.size->w'.heap[k]?=w.heap[k]?):CtAt w' B g t c vp vo:=
 ⟨(hb g h.lt).trans h.blk,qac h.parts fun k hk=>hb k (h.parts.lt k hk).2,qac h.opened fun k hk=>hb k (h.opened.lt k hk).2,h.le⟩
theorem CtAt.below(h:CtAt w B g t c vp vo)(hb:Below w.heap.size w w'):CtAt w' B g t c vp vo:=h.kept hb.block
theorem CtAt.alloc(h:CtAt w B g t c vp vo)(o:Obj):CtAt (w.alloc o) B g t c vp vo:=h.kept fun _ hk=>heap_alloc_old w o hk
theorem CtAt.cell(h:CtAt w B g t c vp vo):∀(j:Nat) (v:Value),[bs t,bs c.op,bs c.cl,vp,vo][j]?=some v->w.cell? ⟨g,j,none⟩=some v:=fun j v hv=>qaa h.blk j v hv
theorem CtAt.thaw(h:CtAt w B g t c vp vo)(j:Nat):w.frozen? ⟨g,j,none⟩=false:=by simp[World.frozen?,h.blk]
theorem qfr:(222:TypeId)≠229:=by decide
theorem qhs:(222:TypeId)≠3:=by decide
theorem qke:(229:TypeId)≠3:=by decide
theorem qae{l:Nat}{cs cs':Array Value}{t t':TypeId}{fz fz':Nat×Nat}(h:w.heap[k]?=some (.cells cs t fz))(h':w.heap[l]?=some (.cells cs' t' fz'))(ha:t≠t'):k≠l:=by
 rintro rfl;rw[h]at h';simp only[Option.some.injEq,Obj.cells.injEq]at h';exact ha h'.2.1
theorem CtAt.more(h:CtAt w B g t c vp vo)(p:Pl.Pt)(hb:w'.ownsRow B 229 4 vp' (c.parts.length+1) (qb0 c.parts++qdk p))(ha:w.grownBy w' vp.ownBlock) :
  CtAt (w'.setCell ⟨g,3,none⟩ vp') B g t { c with parts:=c.parts++[p] } vp' vo/\Cur B g w (w'.setCell ⟨g,3,none⟩ vp'):=by
 have Hc:∀k,vp.ownBlock=some k->g≠k:=fun k hk=>by
  obtain⟨cur,hc⟩:=qad h.parts k hk;exact qae h.blk hc qfr
 have he:∀k l,vo.ownBlock=some k->vp.ownBlock=some l->k≠l:=fun k l hk hl=>by
  obtain⟨cur,hc⟩:=qad h.opened k hk;obtain⟨cur',He⟩:=qad h.parts l hl;exact fun e=>qae He hc qke e.symm
 have Hb:w'.heap[g]?=some (.cells #[bs t,bs c.op,bs c.cl,vp,vo] 222 (0,0)):=(ha.block g h.lt (fun e=>Hc g e.symm rfl)).trans h.blk;have Ha:∀k,k≠g->(w'.setCell ⟨g,3,none⟩ vp').heap[k]?=w'.heap[k]?:=fun k hk=>Below.heap_setCell _ _ _ _ hk;have hf:∀k,vp'.ownBlock=some k->k≠g:=fun k hk=>by
  obtain⟨cur,hc⟩:=qad hb k hk;exact fun e=>qae Hb hc qfr e.symm
 refine⟨⟨?_,?_,?_,h.le⟩,⟨?_,?_⟩⟩
 ·rw[heap_setCell_same _ _ _ _ _ _ Hb];rfl
 ·have e:({ c with parts:=c.parts++[p] }:Pl.Ct).parts.length=c.parts.length+1:=by simp
  rw[e];show World.ownsRow _ _ _ _ _ _ (qb0 (c.parts++[p]));rw[qub];exact qac hb fun k hk=>Ha k (hf k hk)
 ·refine qac h.opened fun k hk=>?_
  have Hf:=(h.opened.lt k hk).2;obtain⟨cur,hc⟩:=qad h.opened k hk;refine(Ha k (fun e=>qae h.blk hc qhs e.symm)).trans (ha.block k Hf (fun e=>he k k hk e.symm rfl))
 ·refine Below.trans ⟨ha.os,ha.tape,ha.output,ha.size,fun k hk=>ha.block k (by have:=h.lt;have:=h.le;omega) (fun e=>by have:=(h.parts.lt k e.symm).1;omega)⟩ ((Below.refl _ _).setCell (p:=⟨g,3,none⟩) h.le _)
 ·intro k cs ty fz hk h1 h2 h3
  refine(Ha k h1).trans (ha.block k (Array.getElem?_eq_some_iff.1 hk).1 (fun e=>?_));obtain⟨cur,hc⟩:=qad h.parts k e.symm;exact qae hk hc h2 rfl
theorem CtAt.push{vo':Value}(h:CtAt w B g t c vp vo)(n:Nat)(hb:w'.ownsRow B 3 1 vo' (c.opened.length+1) (qby c.opened++[.int .i64 n]))(ha:w.grownBy w' vo.ownBlock) :
  CtAt (w'.setCell ⟨g,4,none⟩ vo') B g t { c with opened:=c.opened++[n] } vp vo'/\Cur B g w (w'.setCell ⟨g,4,none⟩ vo'):=by
 have Hc:∀k,vo.ownBlock=some k->g≠k:=fun k hk=>by
  obtain⟨cur,hc⟩:=qad h.opened k hk;exact qae h.blk hc qhs
 have he:∀k l,vp.ownBlock=some k->vo.ownBlock=some l->k≠l:=fun k l hk hl=>by
  obtain⟨cur,hc⟩:=qad h.parts k hk;obtain⟨cur',He⟩:=qad h.opened l hl;exact qae hc He qke
 have Hb:w'.heap[g]?=some (.cells #[bs t,bs c.op,bs c.cl,vp,vo] 222 (0,0)):=(ha.block g h.lt (fun e=>Hc g e.symm rfl)).trans h.blk;have Ha:∀k,k≠g->(w'.setCell ⟨g,4,none⟩ vo').heap[k]?=w'.heap[k]?:=fun k hk=>Below.heap_setCell _ _ _ _ hk;have hf:∀k,vo'.ownBlock=some k->k≠g:=fun k hk=>by
  obtain⟨cur,hc⟩:=qad hb k hk;exact fun e=>qae Hb hc qhs e.symm
 refine⟨⟨?_,?_,?_,h.le⟩,⟨?_,?_⟩⟩
 ·rw[heap_setCell_same _ _ _ _ _ _ Hb];rfl
 ·refine qac h.parts fun k hk=>?_
  have Hf:=(h.parts.lt k hk).2;obtain⟨cur,hc⟩:=qad h.parts k hk;refine(Ha k (fun e=>qae h.blk hc qfr e.symm)).trans (ha.block k Hf (fun e=>he k k hk e.symm rfl))
 ·have e:({ c with opened:=c.opened++[n] }:Pl.Ct).opened.length=c.opened.length+1:=by simp
  rw[e];have e2:qby ({ c with opened:=c.opened++[n] }:Pl.Ct).opened=qby c.opened++[.int .i64 n]:=by simp[qby]
  rw[e2];exact qac hb fun k hk=>Ha k (hf k hk)
 ·refine Below.trans ⟨ha.os,ha.tape,ha.output,ha.size,fun k hk=>ha.block k (by have:=h.lt;have:=h.le;omega) (fun e=>by have:=(h.opened.lt k e.symm).1;omega)⟩ ((Below.refl _ _).setCell (p:=⟨g,4,none⟩) h.le _)
 ·intro k cs ty fz hk h1 h2 h3
  refine(Ha k h1).trans (ha.block k (Array.getElem?_eq_some_iff.1 hk).1 (fun e=>?_));obtain⟨cur,hc⟩:=qad h.opened k e.symm;exact qae hk hc h3 rfl
structure CtTo(w w':World)(B g:Nat)(t:List UInt8)(c:Pl.Ct):Prop where
 ex:∃vp vo,CtAt w' B g t c vp vo
 cur:Cur B g w w'
theorem qc5(w:World)(cs:List Value)(t:TypeId):∀(j:Nat) (u:Value),cs[j]?=some u->(w.alloc (.cells cs.toArray t)).cell? ((⟨w.heap.size,0,none⟩:Addr).add j)=some u:=by
 intro j u hj;have:(⟨w.heap.size,0,none⟩:Addr).add j=⟨w.heap.size,j,none⟩:=by simp only[Addr.add,Nat.zero_add];split<;>simp_all
 rw[this];exact qaa (heap_alloc_new w _) j u (by simpa using hj)
theorem CtAt.ahead(h:CtAt w B g t c vp vo)(Ha:Below w.heap.size w w0){row:Option Nat}(ha:row=vp.ownBlock\/row=vo.ownBlock)(Hb:w0.grownBy w' row)(j:Nat)(v:Value)(hv:[bs t,bs c.op,bs c.cl,vp,vo][j]?=some v):w'.cell? ⟨g,j,none⟩=some v/\w'.frozen? ⟨g,j,none⟩=false:=by
 have Hc:some g≠row:=by
  rintro rfl;rcases ha with e|e
  ·obtain⟨cur,hc⟩:=qad h.parts g e.symm
   exact qae h.blk hc qfr rfl
  ·obtain⟨cur,hc⟩:=qad h.opened g e.symm
   exact qae h.blk hc qhs rfl
 have hb:w'.heap[g]?=some (.cells #[bs t,bs c.op,bs c.cl,vp,vo] 222 (0,0)):=(Hb.block g (Nat.lt_of_lt_of_le h.lt Ha.size) Hc).trans ((Ha.block g h.lt).trans h.blk);exact⟨qaa hb j v hv,by simp[World.frozen?,hb]⟩
theorem CtAt.moreTo(h:CtAt w B g t c vp vo)(Ha:Below w.heap.size w w0)(p:Pl.Pt)(ha:w'.ownsRow B 229 4 vp' (c.parts.length+1) (qb0 c.parts++qdk p))(hb:w0.grownBy w' vp.ownBlock) :
  CtTo w (w'.setCell ⟨g,3,none⟩ vp') B g t { c with parts:=c.parts++[p] }:=by
 obtain⟨h1,h2⟩:=(h.below Ha).more p ha hb;exact⟨⟨_,_,h1⟩,(Cur.of_below Ha (Nat.le_trans h.le (Nat.le_of_lt h.lt))).trans h2⟩
theorem qbr{P:Program}{ops:Array Oper}{o:Oper}{a:Act}{K:Act->World->Prop}{Q:Exit->Act->World->Prop}{E:Prop}
  (hg:o.guard=none) (s x:Operand) (t:TypeId) (Hc:o.op=Op.call { callee:=Callee.builtin Builtin.append,args:=#[s,x],argTypes:=#[t,t] })
  (base:Nat) (e:TypeId) (i:TypeInfo) (z:Value) (size bytes:Nat) (ht:P.underlying t=some (.slice e)) (hi:P.info? e=some i) (hz:i.zero=some z)
  (Ha:i.size=size) (he:i.bytes=bytes) (He:z.cells.size=size) (hf:0<size)
  (v:Value) (n:Nat) (xs:List Value) (hs:a.eval s=v) (hc:w.ownsRow base e size v n xs)
  (ad:Addr) (m c:Nat) (news:List Value) (hx:a.eval x=.slice (some ad) m c) (hl:news.length=m*size) (hb:∀j u,news[j]?=some u->w.cell? (ad.add j)=some u) (h1:∀u∈news,u.oneCell'=true)
  (Hf:n+m<=maxLen) (ha:(n+m)*bytes<=140737488355328) (Hb:base<=w.heap.size)
  (hK:∀v' w',w'.ownsRow base e size v' (n+m) (xs++news)->w.grownBy w' v.ownBlock->(v'.ownBlock=v.ownBlock\/v'.ownBlock=some w.heap.size)->K (a.put o.dst v') w') :
  if Region.wanted o (yielded ops a.tmps)=true then Oper.wp P o a w K Q else E:=by
 have hw:Region.wanted o (yielded ops a.tmps)=true:=by simp[Region.wanted,hg]
 rw[if_pos hw];obtain⟨v',w',hr,h2,h3,h4,h5⟩:=run_append_own_at (P:=P) w base t o.type e i z size bytes ht hi hz Ha he He hf v n xs hc ad m c news hl hb h1 Hf ha Hb;unfold Oper.wp;simp[execOp,Hc,resolve,invoke,builtin,hs,hx,hr,Result.andThen];exact hK v' w' h2 h3 h5
def qec(o:Pl.Tg):Value:=.agg #[.int .i64 o.kind,.int .i64 o.slip,bs o.name,bs o.op,bs o.cl]
def ql1(o:Pl.Tg):Array Value:=#[.int .i64 o.kind,.int .i64 o.slip,bs o.name,bs o.op,bs o.cl]
theorem q1w(s:ByteArray)(h:0<s.size):∃b l,s.data.toList=b::l/\b=s[0]:=by
 have:=Pl.qr7 s 0 h;exact⟨s[0],s.data.toList.drop 1,by simpa using this,rfl⟩
theorem qgl(s:ByteArray)(w:World) :
  Calls Tryz.prog 193 #[.string s] w fun e w'=>e=.returned (.int .i64 (Pl.qa0 s.data.toList))/\w=w':=by
 by_cases h0:s.size=0
 ·obtain rfl:s=⟨#[]⟩:=ByteArray.ext (Array.eq_empty_of_size_eq_zero h0)
  go_enter Tryz.func193,Tryz.ntmps193
  go_wp2_with fail
  go_ret
  exact⟨rfl,rfl⟩
 have c0:(s.toList.isEmpty)=false:=by
  rw[Lib.toList_data,List.isEmpty_eq_false_iff];intro q;apply h0;have:=congrArg List.length q;simpa using this
 obtain⟨b,l,hl,hb⟩:=q1w s (by omega);have c1:(0:Int)<(s.size:Int):=by omega
 have HV:Hid (Pl.qa0 s.data.toList=if s[0]=33 then 7 else if s[0]=61 then 8 else if s[0]=35 then 3 else if s[0]=94 then 4 else if s[0]=47 then 5 else if s[0]=62 then 6 else 2):=by
  show _=_;rw[hl];unfold Pl.qa0;rw[hb]
 have ne:∀n:UInt8,s[0]≠n->∀z:Int,z=n.toNat->¬(s[0].toNat:Int)=z:=fun n ha z hz q=>ha (UInt8.toNat_inj.1 (by omega));clear hl hb h0;by_cases d1:s[0]=33
 ·have e1:(s[0].toNat:Int)=33:=by rw[d1];rfl
  have HT:Hid (Pl.qa0 s.data.toList=7):=by show _=_;rw[HV.out,d1];rfl
  clear HV d1 ne;go_enter Tryz.func193,Tryz.ntmps193
  go_wp2_with fail
  go_ret
  exact⟨qan (by rw[HT.out];rfl),rfl⟩
 have e1:=ne 33 d1 33 rfl;by_cases d2:s[0]=61
 ·have e2:(s[0].toNat:Int)=61:=by rw[d2];rfl
  have HT:Hid (Pl.qa0 s.data.toList=8):=by show _=_;rw[HV.out,d2];rfl
  clear HV d1 d2 ne;go_enter Tryz.func193,Tryz.ntmps193
  go_wp2_with fail
  go_ret
  exact⟨qan (by rw[HT.out];rfl),rfl⟩
 have e2:=ne 61 d2 61 rfl;by_cases d3:s[0]=35
 ·have e3:(s[0].toNat:Int)=35:=by rw[d3];rfl
  have HT:Hid (Pl.qa0 s.data.toList=3):=by show _=_;rw[HV.out,d3];rfl
  clear HV d1 d2 d3 ne;go_enter Tryz.func193,Tryz.ntmps193
  go_wp2_with fail
  go_ret
  exact⟨qan (by rw[HT.out];rfl),rfl⟩
 have e3:=ne 35 d3 35 rfl;by_cases d4:s[0]=94
 ·have e4:(s[0].toNat:Int)=94:=by rw[d4];rfl
  have HT:Hid (Pl.qa0 s.data.toList=4):=by show _=_;rw[HV.out,d4];rfl
  clear HV d1 d2 d3 d4 ne;go_enter Tryz.func193,Tryz.ntmps193
  go_wp2_with fail
  go_ret
  exact⟨qan (by rw[HT.out];rfl),rfl⟩
 have e4:=ne 94 d4 94 rfl;by_cases d5:s[0]=47
 ·have e5:(s[0].toNat:Int)=47:=by rw[d5];rfl
  have HT:Hid (Pl.qa0 s.data.toList=5):=by show _=_;rw[HV.out,d5];rfl
  clear HV d1 d2 d3 d4 d5 ne;go_enter Tryz.func193,Tryz.ntmps193
  go_wp2_with fail
  go_ret
  exact⟨qan (by rw[HT.out];rfl),rfl⟩
 have e5:=ne 47 d5 47 rfl;by_cases d6:s[0]=62
 ·have e6:(s[0].toNat:Int)=62:=by rw[d6];rfl
  have HT:Hid (Pl.qa0 s.data.toList=6):=by show _=_;rw[HV.out,d6];rfl
  clear HV d1 d2 d3 d4 d5 d6 ne;go_enter Tryz.func193,Tryz.ntmps193
  go_wp2_with fail
  go_ret
  exact⟨qan (by rw[HT.out];rfl),rfl⟩
 have e6:=ne 62 d6 62 rfl;have HT:Hid (Pl.qa0 s.data.toList=2):=by show _=_;rw[HV.out,if_neg d1,if_neg d2,if_neg d3,if_neg d4,if_neg d5,if_neg d6]
 clear HV d1 d2 d3 d4 d5 d6 ne;go_enter Tryz.func193,Tryz.ntmps193
 go_wp2_with fail
 go_ret
 exact⟨qan (by rw[HT.out];rfl),rfl⟩
def qaz(w:World):Prop:=∃m:Int,w.cell? ⟨11,0,none⟩=some (.int .i64 m)
theorem qaz.below{w w':World}(h:qaz w)(hb:Below w.heap.size w w'):qaz w':=by
 obtain⟨m,hm⟩:=h;exact⟨m,(World.cell?_of_block (hb.block _ (World.block_lt_of_cell? _ _ hm))).trans hm⟩
theorem qst(l:List UInt8)(h:l≠[46]):Pl.isNm l=(decide ((Lib.split l [46]).length<=4) && (Lib.split l [46]).all Pl.qa6):=by
 unfold Pl.isNm;rw[beq_eq_false_iff_ne.2 h];rfl
theorem q1g(s:ByteArray)(w:World)(hs:s.size<=100000)(hm:qaz w) :
  Calls Tryz.prog 230 #[.string s] w fun e w'=>e=.returned (.bool (Pl.isNm s.data.toList))/\Below w.heap.size w w':=by
 obtain⟨m,hm⟩:=hm;by_cases h0:s.data.toList=[46]
 ·obtain rfl:s=⟨#[46]⟩:=ByteArray.ext (Array.toList_inj.1 h0)
  clear hm;go_enter Tryz.func230,Tryz.ntmps230
  go_wp2_with fail
  go_ret
  exact⟨rfl,Below.refl _ _⟩
 have c0:(s.toList==[46])=false:=by rw[Lib.toList_data];exact beq_eq_false_iff_ne.2 h0
 have HV:=hd (qst _ h0);have HS:=hd (Tryz.strings_Split s ⟨#[46]⟩ m w (by omega) hm (by decide));have ha:(Lib.splitB ⟨#[46]⟩ 0 (Lib.countB s ⟨#[46]⟩) s).length=Lib.countB s ⟨#[46]⟩+1:=Lib.splitB_all ⟨#[46]⟩ (by decide) 0 _ s rfl;have Ha:(Lib.splitB ⟨#[46]⟩ 0 (Lib.countB s ⟨#[46]⟩) s).map (·.data.toList)=Lib.split s.data.toList [46]:=Lib.splitB_data ⟨#[46]⟩ 0 _ s;have hc:Lib.countB s ⟨#[46]⟩<=s.size:=Lib.countB_le ⟨#[46]⟩ (by decide) _ s (Nat.le_refl _);clear hm h0;generalize Lib.countB s ⟨#[46]⟩=c at HS ha Ha hc;generalize Lib.splitB ⟨#[46]⟩ 0 c s=L at HS ha Ha;have HC:Hid (∀(k:Nat) (x:ByteArray),L[k]?=some x->(w.alloc (.cells (L.map Value.string).toArray 9)).cell? ⟨w.heap.size,k,none⟩=some (.string x)):=by
  intro k x hx;refine qaa (heap_alloc_new w _) k _ ?_;simp[hx]
 have HB:Hid (Below w.heap.size w (w.alloc (.cells (L.map Value.string).toArray 9))):=ba _;have Hb:(Lib.split s.data.toList [46]).length=c+1:=by rw[<-Ha];simpa using ha
 have HA:Hid ((Lib.split s.data.toList [46]).all Pl.qa6=L.all (fun x=>Pl.qa6 x.data.toList)):=by show _=_;rw[<-Ha,List.all_map];rfl
 rw[Hb]at HV;have HL:=hd ha;clear ha Ha Hb;by_cases h4:c+1<=4
 rotate_left
 ·have HT:Hid (Pl.isNm s.data.toList=false):=by show _=_;rw[HV.out,decide_eq_false h4];rfl
  have c4:(4:Int)<((c+1:Nat):Int):=by omega
  clear HV HA HC h4 HL;go_enter Tryz.func230,Tryz.ntmps230
  go_wp2_with (go_at_call 242;refine Calls.mono HS.out ?_;rintro e w' ⟨rfl,rfl⟩)
  go_ret
  exact⟨qbo HT.out.symm,HB.out⟩
 have HT:Hid (Pl.isNm s.data.toList=L.all (fun x=>Pl.qa6 x.data.toList)):=by show _=_;rw[HV.out,HA.out,decide_eq_true h4];rfl
 have c4:¬(4:Int)<((c+1:Nat):Int):=by omega
 clear HV HA;go_enter Tryz.func230,Tryz.ntmps230
 go_wp2_with (go_at_call 242;refine Calls.mono HS.out ?_;rintro e w' ⟨rfl,rfl⟩)
 generalize w.alloc (.cells (L.map Value.string).toArray 9)=W at HC HB |-;clear HS c0;go_loopw [15] (fun i wr=>∃k:Nat,k<=c+1/\i=.int .i64 k/\Hid ((L.take k).all (fun x=>Pl.qa6 x.data.toList)=true)/\wr=W) (fun i _=>c+1 - (intOf i).toNat)
 case atStart=>exact⟨0,Nat.zero_le _,rfl,rfl,rfl⟩
 case round=>
  obtain⟨k,hk,rfl,HN,rfl⟩:=hrel;by_cases he:k<c+1
  ·have Hc:k<L.length:=by have:=HL.out;omega
   have hx:L[k]?=some L[k]:=List.getElem?_eq_getElem Hc;have q0:=HC.out k _ hx;have HX:=hd hx;clear hx;generalize L[k]=X at q0 HX;by_cases hi:Pl.qa6 X.data.toList=true
   ·have hb:Hid ((L.take (k+1)).all (fun x=>Pl.qa6 x.data.toList)=true):=by
     show _=_;rw[List.take_add_one,HX.out,List.all_append,HN.out];simp[hi]
    clear HN HX;go_wp2_with (go_at_call 72;refine(qc7 X _).mono ?_;rintro e w' ⟨rfl,rfl⟩;rw[hi])
    go_roundw
    case rel=>exact⟨k+1,by omega,by go_num,hb,trivial⟩
    case measure=>simp[intOf];omega
   ·have hi:=Bool.eq_false_iff.2 hi
    have hb:Hid (L.all (fun x=>Pl.qa6 x.data.toList)=false):=by
     show _=_;rw[List.all_eq_false];exact⟨X,List.mem_of_getElem? HX.out,by rw[hi];decide⟩
    clear HN HX;go_wp2_with (go_at_call 72;refine(qc7 X _).mono ?_;rintro e w' ⟨rfl,rfl⟩;rw[hi])
    go_ret
    exact⟨qbo (by rw[HT.out,hb.out]),HB.out⟩
  ·have hb:Hid (L.all (fun x=>Pl.qa6 x.data.toList)=true):=by
    show _=_;have h1:=HN.out;rw[List.take_of_length_le (by have:=HL.out;omega)]at h1;exact h1
   clear HN;go_wp2
   go_ret
   exact⟨qbo (by rw[HT.out,hb.out]),HB.out⟩
theorem qlm:(Tryz.prog.info? 229).map (fun i=>(i.zero,i.size,i.bytes))=some (some (.agg #[.int .i64 0,.int .i64 0,.string ⟨#[]⟩,.int .i64 0]),4,40):=by kernel_rfl
theorem q35:(Tryz.prog.info? 3).map (fun i=>(i.zero,i.size,i.bytes))=some (some (.int .i64 0),1,8):=by kernel_rfl
theorem qjt:(Value.agg #[.int .i64 0,.int .i64 0,.string ⟨#[]⟩,.int .i64 0]).cells.size=4:=rfl
theorem qgu(t:List UInt8)(a z:Nat):(⟨t.toArray⟩:ByteArray).extract a z=⟨((t.drop a).take (z - a)).toArray⟩:=by
 rw[Lib.extract_eq]
theorem qpv(w:World)(B g:Nat)(t:List UInt8)(c:Pl.Ct)(vp vo:Value)(a z:Nat)(h:CtAt w B g t c vp vo)(hz:z<=t.length)(hn:c.parts.length<=4000) :
  Calls Tryz.prog 147 #[.pointer (some ⟨g,0,none⟩),.int .i64 a,.int .i64 z] w fun e w'=>(∃r,e=.returned r)/\CtTo w w' B g t (c.addText t a z):=by
 by_cases Ha:a<z
 rotate_left
 ·have HV:Hid (c.addText t a z=c):=by show _=_;unfold Pl.Ct.addText;rw[if_neg Ha]
  have c1:¬(a:Int)<(z:Int):=by omega
  rw[HV.out];have H:=hd h;clear HV Ha h;go_enter Tryz.func147,Tryz.ntmps147
  go_wp2_with fail
  go_end0
  exact⟨⟨_,rfl⟩,⟨⟨vp,vo,H.out⟩,Cur.refl _ _ _⟩⟩
 have HV:Hid (c.addText t a z={ c with parts:=c.parts++[⟨1,a,(t.drop a).take (z - a),0⟩] }):=by show _=_;unfold Pl.Ct.addText;rw[if_pos Ha]
 rw[HV.out];obtain⟨T,hT⟩:∃T,T=(⟨t.toArray⟩:ByteArray):=⟨_,rfl⟩;have hf:T.size=t.length:=by rw[hT];simp[ByteArray.size]
 have HX:Hid (∀x:ByteArray,x=T.extract a z->Value.string x=bs ((t.drop a).take (z - a))):=by
  rintro x rfl;rw[hT,qgu];rfl
 obtain⟨i0,hi,Hb,hc,Hc⟩:=info_parts qlm;have c1:(a:Int)<(z:Int):=by omega
 have c2:(z:Int)<=(T.size:Int):=by omega
 have c3:(a:Int)<=(z:Int):=by omega
 have b0:=h.cell 0 _ rfl;have b3:=h.cell 3 _ rfl;have f3:=h.thaw 3;have b4:(w.alloc (.cells #[.int .i64 1,.int .i64 a,.string (T.extract a z),.int .i64 0] 229)).cell? ⟨g,3,none⟩=some vp:=(h.alloc _).cell 3 _ rfl;unfold bs at b0;rw[<-hT]at b0;have he:B<=w.heap.size:=by have:=h.lt;have:=h.le;omega
 have H:=hd h;clear HV Ha h hT;go_enter Tryz.func147,Tryz.ntmps147
 go_wp2_with fail
 go_region_law (refine qbr rfl (.tmp 13) (.tmp 23) 168 rfl B 229 i0 (.agg #[.int .i64 0,.int .i64 0,.string ⟨#[]⟩,.int .i64 0]) 4 40 Tryz.underlying168 hi Hb hc Hc qjt (by decide) vp c.parts.length _ (by simp[Act.eval]) (World.ownsRow.alloc H.out.parts _) ⟨_,0,none⟩ 1 1 [.int .i64 1,.int .i64 a,.string (T.extract a z),.int .i64 0] (by simp[Act.eval]) rfl (qc5 _ _ _) (by simp[Value.oneCell']) (by unfold maxLen;omega) (by omega) (by simp;omega) ?_;intro v' w' ha hb He;obtain⟨g',cap',rfl,_,_⟩:=qaj ha (by omega);obtain⟨q3,r3⟩:=H.out.ahead ((ba _).drew) (.inl rfl) hb 3 _ rfl)
 all_goals
  go_end0
  rw[HX.out _ rfl]at ha;exact⟨⟨_,rfl⟩,H.out.moreTo ((ba _).drew) ⟨1,a,_,0⟩ ha hb⟩
variable{w:World}{B n k:Nat}{xs:List Value}
theorem qfg{e:TypeId}{v:Value}(h:w.ownsRow B e k v n xs):∃ao cap,v=.slice ao n cap:=by
 rcases h.2 with⟨rfl,rfl⟩|⟨g,cap,cur,hv,_⟩
 ·exact⟨none,0,rfl⟩
 ·exact⟨_,_,hv⟩
theorem qfv{g cap:Nat}{e:TypeId}(h:w.ownsRow B e k (.slice (some ⟨g,0,none⟩) n cap) n xs)(j:Nat)(u:Value)(hu:xs[j]?=some u):w.cell? ⟨g,j,none⟩=some u:=by
 have:=World.ownsRow.cells h (g:=g) rfl j u hu;have e:(⟨g,0,none⟩:Addr).add j=⟨g,j,none⟩:=by simp only[Addr.add,Nat.zero_add];split<;>simp_all
 rw[e]at this;exact this
theorem qkp(L:List Nat)(k m:Nat)(h:L[k]?=some m):(qby L)[k]?=some (.int .i64 m):=by simp[qby,h]
theorem qh7(k:Nat)(h:k<=1000000000):IntKind.i64.wrap (k:Int)=k:=by
 rw[IntKind.wrap_i64];omega
def qgx(k p:Nat):Value:=.agg #[.int .i64 k,.int .i64 p]
theorem qup(w:World)(B g:Nat)(t:List UInt8)(c:Pl.Ct)(vp vo:Value)(h:CtAt w B g t c vp vo)(hO:∀m∈c.opened,m<c.parts.length)(hn:c.parts.length<=4000)(h6:c.opened.length<=6) :
  Calls Tryz.prog 148 #[.pointer (some ⟨g,0,none⟩)] w fun e w'=>e=.returned (qgx c.left.1 c.left.2)/\Below w.heap.size w w':=by
 have b3:∀o,(w.alloc o).cell? ⟨g,3,none⟩=some vp:=fun o=>(h.alloc o).cell 3 _ rfl;have b4:∀o,(w.alloc o).cell? ⟨g,4,none⟩=some vo:=fun o=>(h.alloc o).cell 4 _ rfl;by_cases h0:c.opened.length=0
 ·have HV:Hid (c.left=(0,0)):=by show _=_;unfold Pl.Ct.left;rw[List.length_eq_zero_iff.1 h0];rfl
  obtain⟨ao,cap,rfl⟩:=qfg h.opened;rw[HV.out];rw[h0]at b4;clear HV h hO hn h6 h0;unfold qgx;go_enter Tryz.func148,Tryz.ntmps148
  go_wp2_with fail
  refine bodyPost_ret (qbk Tryz.results148 _ _ w.heap.size _ _ rfl (qaa (heap_alloc_new w _)) Tryz.underlying169 rfl (by kernel_rfl)) rfl ?_;exact⟨rfl,ba _⟩
 ·obtain⟨k,hk⟩:∃k,c.opened.length=k+1:=⟨c.opened.length - 1,by omega⟩
  have hx:c.opened[k]?=some c.opened[k]:=List.getElem?_eq_getElem (by omega);have hl:c.opened.getLast?=some c.opened[k]:=by rw[List.getLast?_eq_getElem?,show c.opened.length - 1=k by omega];exact hx
  have hm:=hO _ (List.mem_of_getElem? hx);generalize c.opened[k]=m at hx hl hm;have hp:c.parts[m]?=some c.parts[m]:=List.getElem?_eq_getElem hm;have HV:Hid (c.left=(7,c.parts[m].pos)):=by show _=_;unfold Pl.Ct.left Pl.qi4;rw[hl];simp only;rw[hp]
  generalize c.parts[m]=p at hp HV;obtain⟨go,capo,ha,hc,Ha⟩:=qaj h.opened (by omega);obtain⟨gp,capp,hb,Hc,Hb⟩:=qaj h.parts (by omega);have q4:∀o,(w.alloc o).cell? ⟨go,k,none⟩=some (.int .i64 m):=fun o=>qfv (ha▸(h.alloc o).opened) k _ (qkp _ _ _ hx);have q3:∀o,(w.alloc o).cell? ⟨gp,m*4+1,none⟩=some (.int .i64 p.pos):=fun o=>qfv (hb▸(h.alloc o).parts) _ _ (qft _ _ _ hp 1 _ rfl);rw[ha,hk]at b4;rw[hb]at b3;rw[HV.out];have d1:(m:Int)<(c.parts.length:Int):=by omega
  generalize c.parts.length=N at b3 d1;have w1:IntKind.i64.wrap (k:Int)=k:=qh7 k (by omega);clear HV h hO hn hc Ha Hc Hb ha hb hx hl hp hm h0 hk;unfold qgx;go_enter Tryz.func148,Tryz.ntmps148
  go_wp2_with fail
  go_region
  go_wp2_with fail
  refine bodyPost_ret (qbk Tryz.results148 _ _ w.heap.size _ _ rfl (qaa (heap_alloc_new w _)) Tryz.underlying169 rfl (by kernel_rfl)) rfl ?_;exact⟨rfl,(ba _).drew⟩
variable{f:Func}{a:Act}{w0 w:World}{p:Tmp}{g:Nat}
theorem qoi{r:Pl.Tg}(hf:f.results=#[.cell p 274])(hp:a.tmps.getD p undef=.pointer (some ⟨w0.heap.size,0,none⟩))(hd:a.defers=[])(hw:w.heap[w0.heap.size]?=some (.cells (ql1 r) 274 (0,0)))(hb:Below w0.heap.size w0 w) :
  bodyPost Tryz.prog f (fun e w'=>e=.returned (qec r)/\Below w0.heap.size w0 w') .ret a w:=
 bodyPost_ret (qbk hf _ _ w0.heap.size _ _ hp (qaa hw) Tryz.underlying274 rfl (by kernel_rfl)) hd ⟨rfl,hb⟩
theorem qu1{t:TypeId}{u0 u1 u2 u3 u4:Value}(h:w.heap[g]?=some (.cells #[u0,u1,u2,u3,u4] t (0,0)))(v0 v1 v2 v3 v4:Value) :
  (((((w.setCell ⟨g,0,none⟩ v0).setCell ⟨g,1,none⟩ v1).setCell ⟨g,2,none⟩ v2).setCell ⟨g,3,none⟩ v3).setCell ⟨g,4,none⟩ v4).heap[g]?=some (.cells #[v0,v1,v2,v3,v4] t (0,0)):=
 heap_setCell_same _ _ _ _ _ _ (heap_setCell_same _ _ _ _ _ _ (heap_setCell_same _ _ _ _ _ _ (heap_setCell_same _ _ _ _ _ _ (heap_setCell_same _ _ _ _ _ _ h))))
theorem qmw{B:Nat}{a:World}(h:Below B a w)(hg:B<=g)(v0 v1 v2 v3 v4:Value):Below B a (((((w.setCell ⟨g,0,none⟩ v0).setCell ⟨g,1,none⟩ v1).setCell ⟨g,2,none⟩ v2).setCell ⟨g,3,none⟩ v3).setCell ⟨g,4,none⟩ v4):=
 ((((h.setCell (p:=⟨g,0,none⟩) hg v0).setCell (p:=⟨g,1,none⟩) hg v1).setCell (p:=⟨g,2,none⟩) hg v2).setCell (p:=⟨g,3,none⟩) hg v3).setCell (p:=⟨g,4,none⟩) hg v4
structure TgSlot(w0 w:World):Prop where
 blk:w.heap[w0.heap.size]?=some (.cells #[.int .i64 0,.int .i64 0,.string ⟨#[]⟩,.string ⟨#[]⟩,.string ⟨#[]⟩] 274 (0,0))
 below:Below w0.heap.size w0 w
theorem qd5(w0:World):TgSlot w0 (w0.alloc (.cells #[.int .i64 0,.int .i64 0,.string ⟨#[]⟩,.string ⟨#[]⟩,.string ⟨#[]⟩] 274)):=⟨heap_alloc_new w0 _,ba _⟩
theorem TgSlot.next{w':World}(h:TgSlot w0 w)(hb:Below w.heap.size w w'):TgSlot w0 w':=
 ⟨(hb.block _ (lta h.blk)).trans h.blk,h.below.trans (hb.mono h.below.size)⟩
theorem TgSlot.facts(h:TgSlot w0 w):(w.cell? ⟨w0.heap.size,0,none⟩=some (.int .i64 0)/\w.cell? ⟨w0.heap.size,1,none⟩=some (.int .i64 0)/\w.cell? ⟨w0.heap.size,2,none⟩=some (.string ⟨#[]⟩)/\w.cell? ⟨w0.heap.size,3,none⟩=some (.string ⟨#[]⟩)/\w.cell? ⟨w0.heap.size,4,none⟩=some (.string ⟨#[]⟩)) /\
  w.frozen? ⟨w0.heap.size,0,none⟩=false/\w.frozen? ⟨w0.heap.size,1,none⟩=false/\w.frozen? ⟨w0.heap.size,2,none⟩=false/\w.frozen? ⟨w0.heap.size,3,none⟩=false/\w.frozen? ⟨w0.heap.size,4,none⟩=false:=by
 have c:=qaa h.blk;refine⟨⟨c 0 _ rfl,c 1 _ rfl,c 2 _ rfl,c 3 _ rfl,c 4 _ rfl⟩,?_⟩;simp[World.frozen?,h.blk]
theorem qgk(r:Pl.Tg)(hf:f.results=#[.cell p 274])(hp:a.tmps.getD p undef=.pointer (some ⟨w0.heap.size,0,none⟩))(hd:a.defers=[])(hs:TgSlot w0 w){v0 v1 v2 v3 v4:Value}(hv:#[v0,v1,v2,v3,v4]=ql1 r) :
  bodyPost Tryz.prog f (fun e w'=>e=.returned (qec r)/\Below w0.heap.size w0 w') .ret a (((((w.setCell ⟨w0.heap.size,0,none⟩ v0).setCell ⟨w0.heap.size,1,none⟩ v1).setCell ⟨w0.heap.size,2,none⟩ v2).setCell ⟨w0.heap.size,3,none⟩ v3).setCell ⟨w0.heap.size,4,none⟩ v4):=
 qoi (r:=r) hf hp hd (by rw[qu1 hs.blk,hv]) (qmw hs.below (Nat.le_refl _) _ _ _ _ _)
theorem qoj(k:Nat)(s:ByteArray)(w:World)(hs:s.size<=100000)(hm:qaz w) :
  Calls Tryz.prog 195 #[.int .i64 k,.string s] w fun e w'=>e=.returned (qec (Pl.qca k s.data.toList))/\Below w.heap.size w w':=by
 have HB:=hd (fun o=>q1g s (w.alloc o) hs (hm.below (ba _)));clear hm;by_cases h6:k=6
 ·subst h6
  clear HB;by_cases hi:Pl.qa6 s.data.toList=true
  ·have HV:Hid (Pl.qca 6 s.data.toList=⟨6,0,s.data.toList,[],[]⟩):=by show _=_;unfold Pl.qca;simp[hi]
   rw[HV.out];clear HV;go_enter Tryz.func195,Tryz.ntmps195
   go_wp2_with (go_at_call 72;refine(qc7 s _).mono ?_;rintro e w' ⟨rfl,rfl⟩;rw[hi])
   exact qoi (r:=⟨6,0,s.data.toList,[],[]⟩) Tryz.results195 rfl rfl (heap_alloc_new w _) (ba _)
  ·have hi:=Bool.eq_false_iff.2 hi
   have HV:Hid (Pl.qca 6 s.data.toList=⟨6,3,[],[],[]⟩):=by show _=_;unfold Pl.qca;simp[hi]
   rw[HV.out];clear HV;go_enter Tryz.func195,Tryz.ntmps195
   go_wp2_with (go_at_call 72;refine(qc7 s _).mono ?_;rintro e w' ⟨rfl,rfl⟩;rw[hi])
   exact qoi (r:=⟨6,3,[],[],[]⟩) Tryz.results195 rfl rfl (heap_alloc_new w _) (ba _)
 ·have c6:¬(k:Int)=6:=by omega
  by_cases hi:Pl.isNm s.data.toList=true
  ·have HV:Hid (Pl.qca k s.data.toList=⟨k,0,s.data.toList,[],[]⟩):=by show _=_;unfold Pl.qca;simp[hi,h6]
   rw[HV.out];clear HV;rw[hi]at HB;clear h6;go_enter Tryz.func195,Tryz.ntmps195
   go_wp2_with (go_at_call 230;refine Calls.mono (HB.out _) ?_;rintro e w' ⟨rfl,hb⟩;have hS:=(qd5 w).next hb;obtain⟨⟨k0,k1,k2,k3,k4⟩,f0,f1,f2,f3,f4⟩:=hS.facts;have HS:=hd hS;clear hb hS)
   exact qgk (w0:=w) ⟨k,0,s.data.toList,[],[]⟩ Tryz.results195 rfl rfl HS.out rfl
  ·have hi:=Bool.eq_false_iff.2 hi
   have HV:Hid (Pl.qca k s.data.toList=⟨k,3,[],[],[]⟩):=by show _=_;unfold Pl.qca;simp[hi,h6]
   rw[HV.out];clear HV;rw[hi]at HB;clear h6;go_enter Tryz.func195,Tryz.ntmps195
   go_wp2_with (go_at_call 230;refine Calls.mono (HB.out _) ?_;rintro e w' ⟨rfl,hb⟩;have hS:=(qd5 w).next hb;obtain⟨⟨k0,k1,k2,k3,k4⟩,f0,f1,f2,f3,f4⟩:=hS.facts;have HS:=hd hS;clear hb hS)
   exact qgk (w0:=w) ⟨k,3,[],[],[]⟩ Tryz.results195 rfl rfl HS.out rfl
end Go.Proofs.YtfkhljmiehdgmaaGreatDoor
namespace Go.Proofs.YtfkhljmiehdgmaaGreatDoor
open Go.RowKit Go.Maps Go.MapKept Go.ChangeMaps
variable{w w':World}{b:Nat}{L:List (Value×Value)}
def qfa(w:World)(b:Nat)(L:List (Value×Value)):Prop:=∃es clock,w.heap[b]?=some (.map es clock)/\es.toList.map (fun e=>(e.key,e.val))=L
structure KeysOk(P:Program)(K:TypeId)(L:List (Value×Value)):Prop where
 key:∀p∈L,∃l,keyOf P K p.1=some l
 one:∀(i j:Nat) (p q:Value×Value),L[i]?=some p->L[j]?=some q->p.1=q.1->i=j
theorem qfa.lt(h:qfa w b L):b<w.heap.size:=by
 obtain⟨es,c,hb,_⟩:=h;rcases Nat.lt_or_ge b w.heap.size with q|q
 ·exact q
 ·rw[Array.getElem?_eq_none q]at hb;cases hb
theorem qfa.heap(h:qfa w b L)(hw:w'.heap[b]?=w.heap[b]?):qfa w' b L:=by
 obtain⟨es,c,hb,hl⟩:=h;exact⟨es,c,hw.trans hb,hl⟩
theorem qfa.kept{row:Option Nat}(h:qfa w b L)(hg:w.grownBy w' row)(ha:some b≠row):qfa w' b L:=h.heap (hg.block b h.lt ha)
section
variable {P:Program}{K t e:TypeId}{w:World}{b:Nat}{L:List (Value×Value)}
theorem qso(law:Keyed P K)(h:qfa w b L)(hk:KeysOk P K L){key:Value}{kl:Lit}(ha:keyOf P K key=some kl) :
  ∃es clock,w.heap[b]?=some (.map es clock)/\es.toList.map (fun e=>(e.key,e.val))=L/\(∀W:World,
    (((Instr.findKey K key es.toList).run P W=.ok none W/\∀p∈L,p.1≠key) \/
    ∃(j:Nat) (v:Value),(Instr.findKey K key es.toList).run P W=.ok (some (j,v)) W/\L[j]?=some (key,v)/\es[j]?.map (·.key)=some key)):=by
 obtain⟨es,clock,hb,hl⟩:=h;refine⟨es,clock,hb,hl,fun W=>?_⟩;have Ha:∀x∈es.toList,∃l,keyOf P K x.key=some l:=fun x hx=>hk.key (x.key,x.val) (by rw[<-hl];exact List.mem_map.2 ⟨x,hx,rfl⟩);rcases law.find W ha es.toList Ha with⟨h1,h2⟩|⟨j,e0,h1,h2,h3⟩
 ·refine .inl ⟨h1,fun p hp=>?_⟩
  rw[<-hl]at hp;obtain⟨x,hx,rfl⟩:=List.mem_map.1 hp;exact h2 x hx
 ·refine .inr ⟨j,e0.val,h1,?_,?_⟩
  ·rw[<-hl,List.getElem?_map,h2];simp[h3]
  ·rw[<-Array.getElem?_toList,h2];simp[h3]
theorem qif(law:Keyed P K)(ht:P.underlying t=some (.map K e)){z:Value}(hz:(zeroValue e).run P w=.ok z w)(h:qfa w b L)(hk:KeysOk P K L){key:Value}{kl:Lit}(ha:keyOf P K key=some kl)(Ha:∀p∈L,p.1≠key)(c:Bool) :
  (Instr.lookup t (.map (some b)) key c).run P w=.ok (if c then .tuple #[z,.bool false]else z) w:=by
 obtain⟨es,clock,hb,hl,hf⟩:=qso law h hk ha;rcases hf w with⟨h1,_⟩|⟨j,v,_,h2,_⟩
 ·simp[Instr.lookup,run_underlying ht,MapKept.run_getObj_map hb,law.check w _ ha,h1,hz,Result.andThen]
 ·exact absurd rfl (Ha _ (List.mem_of_getElem? h2))
theorem qhl(law:Keyed P K)(ht:P.underlying t=some (.map K e))(h:qfa w b L)(hk:KeysOk P K L){key:Value}{kl:Lit}(ha:keyOf P K key=some kl){v:Value}(hv:(key,v)∈L)(c:Bool) :
  (Instr.lookup t (.map (some b)) key c).run P w=.ok (if c then .tuple #[v,.bool true]else v) w:=by
 obtain⟨es,clock,hb,hl,hf⟩:=qso law h hk ha;rcases hf w with⟨_,h1⟩|⟨j,u,h1,h2,_⟩
 ·exact absurd rfl (h1 _ hv)
 ·obtain⟨i,hi,Ha⟩:=List.getElem_of_mem hv
  have e1:i=j:=hk.one i j (key,v) (key,u) (by rw[List.getElem?_eq_getElem hi,Ha]) h2 rfl;subst e1;rw[List.getElem?_eq_getElem hi,Ha]at h2;have e2:v=u:=by simpa using h2
  subst e2;simp[Instr.lookup,run_underlying ht,MapKept.run_getObj_map hb,law.check w _ ha,h1,Result.andThen]
theorem qie(law:Keyed P K)(ht:P.underlying t=some (.map K e))(h:qfa w b L)(hk:KeysOk P K L){key val:Value}{kl:Lit}(ha:keyOf P K key=some kl)(Ha:∀p∈L,p.1≠key) :
  ∃w',(Instr.mapUpdate t (.map (some b)) key val).run P w=.ok () w'/\qfa w' b (L++[(key,val)])/\w.grownBy w' (some b)/\w'.heap.size=w.heap.size:=by
 obtain⟨es,clock,hb,hl,hf⟩:=qso law h hk ha;rcases hf w with⟨h1,_⟩|⟨j,u,_,h2,_⟩
 ·refine⟨setBlock w b (.map (es.push ⟨key,val,clock⟩) (clock+1)),?_,⟨_,_,heap_setBlock_same hb _,?_⟩,⟨rfl,rfl,rfl,by simp[setBlock],fun i _ hi=>heap_setBlock_other hb _ (fun e=>hi (by rw[e]))⟩,by simp[setBlock]⟩
  ·simp[Instr.mapUpdate,run_underlying ht,MapKept.run_getObj_map hb,law.check w false ha,h1,MapKept.run_setObj_map _ hb,Result.andThen,setBlock]
  ·rw[Array.toList_push,List.map_append,hl];rfl
 ·exact absurd rfl (Ha _ (List.mem_of_getElem? h2))
theorem qj5(law:Keyed P K)(ht:P.underlying t=some (.map K e))(h:qfa w b L)(hk:KeysOk P K L){key val v:Value}{kl:Lit}(ha:keyOf P K key=some kl)(i:Nat)(hv:L[i]?=some (key,v)) :
  ∃w',(Instr.mapUpdate t (.map (some b)) key val).run P w=.ok () w'/\qfa w' b (L.set i (key,val))/\w.grownBy w' (some b)/\w'.heap.size=w.heap.size:=by
 obtain⟨es,clock,hb,hl,hf⟩:=qso law h hk ha;rcases hf w with⟨_,h1⟩|⟨j,u,h1,h2,h3⟩
 ·exact absurd rfl (h1 _ (List.mem_of_getElem? hv))
 ·have e1:i=j:=hk.one i j _ _ hv h2 rfl
  subst e1;obtain⟨e0,h4,h5⟩:=Option.map_eq_some_iff.1 h3;refine⟨setBlock w b (.map (es.modify i (fun e'=>{ e' with key:=key,val:=val })) clock),?_,⟨_,_,heap_setBlock_same hb _,?_⟩,⟨rfl,rfl,rfl,by simp[setBlock],fun i _ hi=>heap_setBlock_other hb _ (fun e=>hi (by rw[e]))⟩,by simp[setBlock]⟩
  ·simp[Instr.mapUpdate,run_underlying ht,MapKept.run_getObj_map hb,law.check w false ha,h1,h4,h5,law.stays w ha,MapKept.run_setObj_map _ hb,Result.andThen,setBlock]
  ·rw[Array.toList_modify,modify_eq_set _ _ _ _ (by rw[Array.getElem?_toList];exact h4),List.map_set,hl]
end
end Go.Proofs.YtfkhljmiehdgmaaGreatDoor
namespace Go.Proofs.YtfkhljmiehdgmaaGreatDoor.Pl
variable{n:Nat}{p:Sp}
theorem q1n(l:List UInt8):(qfp l).length<=9:=by
 unfold qfp;split
 ·rw[List.length_take];omega
 ·omega
theorem ql3(l:List UInt8):(qcb l).length<=12:=by
 unfold qcb;split
 ·rw[List.length_drop];omega
 ·omega
theorem qza(m:Int)(l:List UInt8)(b:UInt8):(kept m (l++[b])).length<=l.length+1:=by
 unfold kept
 repeat' split
 all_goals simp
 all_goals omega
theorem qog(m:Nat)(b:UInt8)(hm:m<=33):tgt m b=-1\/tgt m b=-2\/∃k:Nat,tgt m b=k/\k<=33:=by
 have key:∀k:Fin 34,∀r∈qe3 k.val,-2<=r.2/\r.2<=33:=by decide
 have h:-2<=tgt m b/\tgt m b<=33:=by
  unfold tgt;split
  ·next r hr=>exact key ⟨m,by omega⟩ r (List.mem_of_find?_eq_some hr)
  ·omega
 by_cases h1:tgt m b=-1
 ·exact .inl h1
 by_cases h2:tgt m b=-2
 ·exact .inr (.inl h2)
 exact .inr (.inr ⟨(tgt m b).toNat,by omega,by omega⟩)
structure SpOk(n:Nat)(p:Sp):Prop where
 mode:∃m:Nat,p.mode=m/\m<=33
 tag:p.tag.length<=9
 attr:p.attr.length<=9
 inside:p.inside.length<=12
 run:p.run.length<=n
theorem qjr(n:Nat):SpOk n Sp.start:=⟨⟨1,rfl,by omega⟩,by decide,by decide,by decide,Nat.zero_le _⟩
theorem qvm(n:List UInt8):qaw n<=33:=by
 unfold qaw
 repeat' split
 all_goals omega
theorem q6d(h:SpOk n p)(m:Nat)(b:UInt8)(tz:Int):(p.named m b tz).tag.length<=9/\(p.named m b tz).attr.length<=9/\(p.named m b tz).inside.length<=12:=by
 have a:=h.tag;have c:=h.attr;have d:=h.inside;unfold Sp.named
 repeat' split
 all_goals refine⟨?_,?_,?_⟩
 all_goals first|assumption|exact q1n _|simp
theorem qyv(h:SpOk n p)(m:Nat)(b:UInt8)(hm:m<=33)(h2:¬tgt m b=-2):SpOk (n+1) (p.step1 m b):=by
 unfold Sp.step1;by_cases h1:tgt m b=-1
 ·rw[if_pos h1]
  split
  ·exact qjr _
  ·exact⟨⟨_,rfl,qvm _⟩,h.tag,Nat.zero_le _,Nat.zero_le _,Nat.zero_le _⟩
 ·rw[if_neg h1]
  have k:=q6d h m b (tgt m b);refine⟨?_,k.1,k.2.1,k.2.2,?_⟩
  ·rcases qog m b hm with q|q|q
   ·exact absurd q h1
   ·exact absurd q h2
   ·exact q
  ·show(if _ then _ else _:List UInt8).length<=_
   split
   ·exact Nat.le_trans (qza _ _ _) (Nat.succ_le_succ h.run)
   ·exact Nat.zero_le _
theorem qk1(m:Nat):qa8 m<=33:=by
 unfold qa8
 repeat' split
 all_goals omega
theorem qjk(m:Nat)(b:UInt8):¬tgt (qa8 m) b=-2:=by
 have key:∀r∈qe3 20++qe3 28++qe3 1,¬r.2=-2:=by decide
 have h:qa8 m=20\/qa8 m=28\/qa8 m=1:=by
  unfold qa8
  repeat' split
  all_goals simp
 intro q;unfold tgt at q;split at q
 ·next r hr=>
  have hr:=List.mem_of_find?_eq_some hr;refine key r ?_ q;rcases h with h|h|h<;>rw[h]at hr<;>simp[hr]
 ·omega
theorem q2y(h:SpOk n p)(m:Nat)(b:UInt8)(hm:m<=33):SpOk (n+1) (p.step m b):=by
 unfold Sp.step;split
 ·exact qyv (p:=Sp.mk (qa8 m) p.tag p.attr p.inside [] p.far) ⟨⟨qa8 m,rfl,qk1 m⟩,h.tag,h.attr,h.inside,Nat.zero_le _⟩ _ b (qk1 m) (qjk m b)
 ·next h2=>exact qyv h m b hm h2
theorem q1o(h:SpOk n p)(m:Nat)(b:UInt8)(hm:m<=33):SpOk (n+1) (p.element m b):=by
 unfold Sp.element;split
 ·split
  ·exact qjr _
  ·exact⟨⟨12,rfl,by omega⟩,by decide,by decide,by decide,Nat.zero_le _⟩
 ·split
  ·exact⟨⟨m,rfl,hm⟩,h.tag,h.attr,ql3 _,by have:=h.run;simp only[List.length_append,List.length_singleton];omega⟩
  ·split
   ·exact⟨⟨m,rfl,hm⟩,h.tag,h.attr,ql3 _,Nat.le_trans (qza _ _ _) (Nat.succ_le_succ h.run)⟩
   ·exact q2y (p:=Sp.mk m p.tag p.attr (qcb (p.inside++[b])) p.run p.far) ⟨⟨m,rfl,hm⟩,h.tag,h.attr,ql3 _,h.run⟩ m b hm
theorem q8w(h:SpOk n p)(b:UInt8):SpOk (n+1) (p.next b):=by
 obtain⟨m,hm,ha⟩:=h.mode;have e:p.mode.toNat=m:=by rw[hm];rfl
 unfold Sp.next;rw[e];split
 ·exact q1o h m b ha
 ·exact q2y h m b ha
variable{n:List UInt8}{s:St}
theorem qnj(n:List UInt8):qiw (qax n):=by
 unfold qax qiw;split
 ·rename_i h
  exact .inr h
 ·exact .inl rfl
theorem qjw(h:qiw n):n.length<=8:=by
 rcases h with rfl|rfl|rfl|rfl|rfl<;>decide
theorem qq3(n:List UInt8)(b:UInt8)(h:n.length<=9):(qc4 n b).length<=9:=by
 unfold qc4;split
 ·exact h
 ·rw[List.length_append];simp;omega
theorem qo7(n:List UInt8):0<=qcx n/\qcx n<=3:=by
 unfold qcx;cases h:qdv.find? (qbb n)with
 |none=>exact⟨by decide,by decide⟩
 |some r=>
   have hm:=List.mem_of_find?_eq_some h;have:∀r∈qdv,0<=r.2.2/\r.2.2<=3:=by decide
   exact this r hm
theorem q4m:∀m,m<19->qa3.getD m false=false:=by decide
theorem q0v:∀m,m<=33->qed.getD (qed.getD m 0) 0=0/\qed.getD m 0<=33:=by decide
theorem qjs(s:St)(b:UInt8):s.readEnd b<=s.ending.length:=by
 unfold St.readEnd;split
 ·rename_i h
  have:=(List.getElem?_eq_some_iff.1 h).1;omega
 ·split
  ·simp[St.ending]
  ·exact Nat.zero_le _
theorem q2a(h:qiw n):(qcg n).Ok:=by
 rcases h with rfl|rfl|rfl|rfl|rfl
 all_goals
  refine⟨by decide,by decide,by decide,fun _ _=>by decide,?_,by decide,by decide,by decide,by decide,by decide,by decide⟩;unfold qiw;decide
theorem q5v:St.start.Ok:=by
 refine⟨by decide,by decide,by decide,fun _ _=>rfl,.inl rfl,fun _=>⟨rfl,rfl⟩,fun _=>rfl,fun _=>rfl,by decide,by decide,fun h=>by revert h;decide⟩
theorem q67(b:UInt8):(St.mk (qc0 b) [] [] 0 0 false).Ok:=by
 unfold qc0;split
 all_goals
  refine⟨by decide,by decide,by decide,fun _ _=>rfl,.inl rfl,fun _=>⟨rfl,rfl⟩,fun _=>rfl,fun _=>rfl,by decide,by decide,fun h=>by revert h;decide⟩
theorem q5u(b:UInt8)(h:s.Ok)(ha:s.esc=false):(s.table b).Ok:=by
 rw[qno];have hs:=qon s.mode h.lo h.hi b;have hn:=h.named;unfold qnf at hs;simp only[Bool.and_eq_true,decide_eq_true_eq,Bool.or_eq_true]at hs;generalize qbw s.mode b=r at hs |-;generalize qde s.mode b=t at hs |-;obtain⟨⟨⟨⟨⟨⟨⟨⟨⟨⟨r1,r2⟩,t1⟩,t2⟩,hf⟩,hr⟩,Hc⟩,h3⟩,h5⟩,h4⟩,hp⟩:=hs;obtain⟨m,n,e,k,rd,x⟩:=s;simp only at *;subst ha;have g1:=h.name;have g2:=h.elem;have g3:=h.bare;have g4:=h.low;have g6:=h.read;have g7:=h.wrap;have g8:=h.high;simp only at g1 g2 g3 g4 g6 g7 g8;have hZ:∃zn ze zk,(St.mk r n e k rd false).led t b=(St.mk r zn ze zk rd false).led1 t b/\zn.length<=9/\(t≠3->t≠5->zn=[])/\qiw ze/\-3<=zk/\zk<=3/\(r≠3\/t=r->ze=e)/\(r≠5\/t=r->zk=k):=by
  by_cases ht:t=r
  ·refine⟨n,e,k,?_,g1,?_,g2,g7.1,g7.2,fun _=>rfl,fun _=>rfl⟩
   ·unfold St.led;rw[if_pos ht]
   ·intro a b
    refine hn ?_ ?_<;>omega
  ·refine⟨[],if r=3 then qax n else e,if r=5 then qcx n else k,?_,by simp,fun _ _=>rfl,?_,?_,?_,?_,?_⟩
   ·unfold St.led;rw[if_neg ht];rfl
   ·split
    ·exact qnj n
    ·exact g2
   ·split
    ·have:=qo7 n;omega
    ·exact g7.1
   ·split
    ·have:=qo7 n;omega
    ·exact g7.2
   ·intro hh
    rw[if_neg (by omega)]
   ·intro hh
    rw[if_neg (by omega)]
 obtain⟨zn,ze,zk,Ha,z1,z2,z3,z4,z5,z6,z7⟩:=hZ;rw[Ha];unfold St.led1;have Hb:m<19->rd=0:=g4;by_cases c3:t=3
 ·rw[if_pos c3]
  simp only[c3,if_true,Bool.or_eq_true,decide_eq_true_eq]at h3;have hb:=g3 (by omega);refine⟨by simp only;omega,by simp only;omega,qq3 zn b z1,fun hh=>absurd c3 hh,z3,fun _=>?_,fun _=>g4 (by omega),fun _=>rfl,by have:=g4 (by omega);simp only;omega,⟨z4,z5⟩,fun hh=>by simp only at hh;omega⟩;refine⟨(z6 ?_).trans hb.1,(z7 (by omega)).trans hb.2⟩;omega
 rw[if_neg c3];by_cases c5:t=5
 ·rw[if_pos c5]
  simp only[c5,if_true,Bool.or_eq_true,decide_eq_true_eq]at h5;refine⟨by simp only;omega,by simp only;omega,qq3 zn b z1,fun _ hh=>absurd c5 hh,z3,fun hh=>by simp only at hh;omega,fun _=>g4 (by omega),fun _=>rfl,by have:=g4 (by omega);simp only;omega,⟨by simp only;omega,by simp only;omega⟩,fun hh=>by simp only at hh;omega⟩
 rw[if_neg c5];have hc:=z2 c3 c5;by_cases c4:t=4\/t=10
 ·rw[if_pos c4]
  rw[if_pos (by omega)]at h4;simp only[Bool.and_eq_true,decide_eq_true_eq]at h4;refine⟨by simp only;omega,by simp only;omega,z1,fun _ _=>hc,z3,fun hh=>by simp only at hh;omega,fun _=>g4 (by omega),fun _=>rfl,by have:=g4 (by omega);simp only;omega,⟨by simp only;omega,by simp only;omega⟩,fun hh=>by simp only at hh;omega⟩
 rw[if_neg c4];by_cases c34:t=34
 ·rw[if_pos c34]
  exact q2a z3
 rw[if_neg c34];have he:(m<19↔t<19)/\(m<19↔r<19):=by
  by_cases hm:m<19
  ·rw[if_pos hm]at hf
   simp only[Bool.and_eq_true,Bool.or_eq_true,decide_eq_true_eq]at hf;omega
  ·rw[if_neg hm]at hf
   simp only[Bool.and_eq_true,decide_eq_true_eq]at hf;omega
 refine⟨by simp only;omega,by simp only;omega,z1,fun _ _=>hc,z3,fun hh=>?_,fun hh=>g4 (by simp only at hh;omega),fun _=>rfl,?_,⟨z4,z5⟩,fun hh=>?_⟩
 ·simp only at hh
  rw[if_pos (by omega)]at hp;simp only[Bool.and_eq_true,Bool.or_eq_true,decide_eq_true_eq]at hp;have hb:=g3 (by omega);exact⟨(z6 (by omega)).trans hb.1,(z7 (by omega)).trans hb.2⟩
 ·by_cases hm:m<19
  ·have:=g4 hm;simp only;omega
  ·have:=z6 (by omega)
   subst this;exact g6
 ·simp only at hh
  have hb:=g8 (by omega);exact⟨by rw[show ze=e from z6 (by omega)];exact hb.1,(z7 (by omega)).trans hb.2⟩
theorem qvt(b:UInt8)(h:s.Ok):(s.behind b).Ok:=by
 have quiet:∀s:St,s.Ok->(s.quiet b).Ok:=by
  intro s h;unfold St.quiet;split
  ·rename_i hq
   simp only[Bool.and_eq_true]at hq;exact⟨h.lo,h.hi,h.name,h.named,h.elem,h.bare,h.low,fun hh=>(by simp only at hh;rw[hq.1]at hh;cases hh),h.read,h.wrap,h.high⟩
  ·rename_i hq
   refine q5u b h ?_;by_cases he:qa3.getD s.mode false=true
   ·rw[he,Bool.true_and]at hq
    simp only[Bool.or_eq_true,not_or,Bool.not_eq_true]at hq;exact hq.1
   ·exact h.calm (Bool.eq_false_iff.2 he)
 unfold St.behind;split
 ·split
  ·exact q67 b
  ·refine quiet _ ⟨h.lo,h.hi,h.name,h.named,h.elem,h.bare,fun hh=>?_,h.calm,qjs s b,h.wrap,h.high⟩
   simp only at hh;omega
 ·exact quiet _ h
end Go.Proofs.YtfkhljmiehdgmaaGreatDoor.Pl
