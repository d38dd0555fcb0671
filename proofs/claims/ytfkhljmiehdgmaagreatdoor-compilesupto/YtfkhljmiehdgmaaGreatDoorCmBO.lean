/-
  Steps of the proof.
-/
import Derived.Test.YtfkhljmiehdgmaaGreatDoorCmBM
import Derived.Test.YtfkhljmiehdgmaaGreatDoorCmBL
import Derived.Laws.CopyRow
set_option maxRecDepth 100000
set_option maxHeartbeats 40000000
namespace Go.Proofs.YtfkhljmiehdgmaaGreatDoor
open Go.RowKit Go.Maps
theorem q7y(HB:qg7)(S:List Pl.Src)(hS:SrcsOk S):∀k,ThrC S k:=by
 intro k
 induction k with
 | zero=>
   intro w B F vv M s e h hp hk ht;have:=hp.inv.few;have:=hp.inv.ends.few;omega
 | succ k ih=>exact q7x HB S hS k ih
namespace Pl
theorem qo1{n:List UInt8}(h:qa6 n=true):n.length≤8:=by
 unfold qa6 at h;simp only[Bool.and_eq_true,decide_eq_true_eq]at h;exact h.2.1
theorem qjw:∀(Z:List (List UInt8×List UInt8)),(qa4 Z).1.code=0→(qa4 Z).2=(Z.map fun z=>⟨z.1,(qam z.2).2⟩)∧∀(i:Nat) z,Z[i]?=some z→(qam z.2).1.1=0
 | [],_=>⟨rfl,fun i z h=>by simp at h⟩
 | (n,t)::l,h=>by
   unfold qa4 at h ⊢;by_cases h0:(qam t).1.1=0
   ·rw[if_neg (fun q=>q h0)]at h ⊢
    by_cases h1:(qa4 l).1.code=0
    ·rw[if_neg (fun q=>q h1)]at h ⊢
     obtain⟨k1,k2⟩:=qjw l h1;refine⟨by rw[k1];rfl,fun i z hz=>?_⟩;cases i with
     | zero=>simp at hz;subst hz;exact h0
     | succ i=>exact k2 i z (by simpa using hz)
    ·rw[if_pos h1]at h;exact absurd h h1
   ·rw[if_pos h0]at h;cases h
end Pl
theorem q2m(t:List UInt8)(P:List (List UInt8×List UInt8))(h6:P.length≤6)(ha:Pl.qg5 (P.map (·.1))=true)(hc:(Pl.qa4 (([],t)::P)).1.code=0):SrcsOk (Pl.qa4 (([],t)::P)).2:=by
 obtain⟨h1,h2⟩:=Pl.qjw _ hc;rw[h1];have Hb:∀(i:Nat) (a:Pl.Src),((([],t)::P).map fun z=>(⟨z.1,(Pl.qam z.2).2⟩:Pl.Src))[i]?=some a→∃z,(([],t)::P)[i]?=some z∧a=⟨z.1,(Pl.qam z.2).2⟩:=fun i a h=>by
  rw[List.getElem?_map]at h;obtain⟨z,e1,e2⟩:=Option.map_eq_some_iff.1 h;exact⟨z,e1,e2.symm⟩
 have Hc:∀(i:Nat) (z:List UInt8×List UInt8),(([],t)::P)[i+1]?=some z→(P.map (·.1))[i]?=some z.1:=fun i z h=>by
  rw[List.getElem?_cons_succ]at h;rw[List.getElem?_map,h];rfl
 have Ha:=(Pl.qe6 _).1 ha;refine⟨by simp;omega,fun i j a b hi hj h3 h4 he=>?_,fun i a h3=>?_,fun i a h3=>?_,fun i a h3=>?_⟩
 ·obtain⟨i,rfl⟩:∃k,i=k+1:=⟨i - 1,by omega⟩
  obtain⟨j,rfl⟩:∃k,j=k+1:=⟨j - 1,by omega⟩;obtain⟨z,e1,rfl⟩:=Hb _ _ h3;obtain⟨y,e2,rfl⟩:=Hb _ _ h4;have he:z.1=y.1:=he;have n1:=Hc i z e1;have n2:=Hc j y e2;rcases Nat.lt_trichotomy i j with q | q | q
  ·exact absurd (he▸n1) ((Ha j y.1 n2).2 i q)
  ·omega
  ·exact absurd (he▸n2) ((Ha i z.1 n1).2 j q)
 ·obtain⟨z,e1,rfl⟩:=Hb _ _ h3
  show z.1.length≤_;cases i with
  | zero=>simp at e1;subst e1;simp
  | succ i=>have:=Pl.qo1 (Ha i z.1 (Hc i z e1)).1;omega
 ·obtain⟨z,e1,rfl⟩:=Hb _ _ h3
  have hz:=h2 i z e1;have hb:=Pl.q6w z.2 hz;have hk:=Pl.qpc z.2 hz;have He:=Pl.q4i z.2;refine⟨Nat.le_trans hk.2 hb.1,fun p hp=>⟨Nat.le_trans (hb.2 p hp).text hb.1,Nat.le_trans (He.2 p hp).pos hb.1,Nat.le_trans (hb.2 p hp).mate hb.1⟩⟩
 ·obtain⟨z,e1,rfl⟩:=Hb _ _ h3
  exact(Pl.qpc z.2 (h2 i z e1)).1
theorem qha{P:Program}{fn:Func}{R:Ending→World→Prop}{a:Act}{w:World}{p q:Tmp}{tp tq:TypeId}(h:fn.results=#[.cell p tp,.cell q tq])(ha:a.defers=[])(g1 g2:Nat)(c1 c2:Array Value)(hp:a.tmps.getD p undef=.pointer (some ⟨g1,0,none⟩))(hq:a.tmps.getD q undef=.pointer (some ⟨g2,0,none⟩))
  (Ha:w.heap[g1]?=some (.cells c1 tp (0,0))) (hb:w.heap[g2]?=some (.cells c2 tq (0,0))) (d1 d2:TypeDesc) (Hb:P.underlying tp=some d1) (hc:P.underlying tq=some d2) (Hc:aggD d1=true) (he:aggD d2=true) (He:(P.info? tp).map (·.size)=some c1.size) (hf:(P.info? tq).map (·.size)=some c2.size) (hR:R (.returned (.tuple #[.agg c1,.agg c2])) w):bodyPost P fn R .ret a w:=by
 refine bodyPost_ret ?_ ha hR;have Hf:=qbl (P:=P) w g1 tp c1 d1 (qaa Ha) Hb (by cases d1<;>first | rfl | cases Hc) He
 have hg:=qbl (P:=P) w g2 tq c2 d2 (qaa hb) hc (by cases d2<;>first | rfl | cases he) hf
 rw[Array.getD_eq_getD_getElem?]at hp hq;simp only[results,h];simp[hp,hq,asAddr,Hf,hg]
def qbq(L:List (ByteArray×ByteArray)):Bool:=decide (L.length≤6) && Pl.qg5 (qbh L)
theorem qkm(L:List (ByteArray×ByteArray)):(qaq L).map (·.1)=qbh L:=by
 unfold qaq qbh;rw[List.map_map];rfl
theorem qky(v:Value)(L:List (ByteArray×ByteArray))(w:World)(hA:qpq w v L):Calls Tryz.prog 43 #[v] w fun e w'=>e=.returned (.bool (qbq L))∧Below w.heap.size w w':=by
 obtain⟨ao,cap,rfl,h1,h2,h3⟩:=hA;unfold qbq;by_cases h6:L.length≤6
 ·rw[decide_eq_true h6,Bool.true_and]
  by_cases hn:L=[]
  ·subst hn
   refine(qvn ao cap w).mono ?_;rintro e w' ⟨rfl,rfl⟩;exact⟨rfl,Below.refl _ _⟩
  ·obtain⟨b,rfl,hp⟩:=h3 hn
   refine(qvm b cap L w hp h6).mono ?_;rintro e w' ⟨rfl,m,rfl⟩;exact⟨rfl,qaz (Below.refl _ _) m⟩
 ·rw[decide_eq_false h6,Bool.false_and]
  refine(qvo ao L.length cap w (by omega)).mono ?_;rintro e w' ⟨rfl,rfl⟩;exact⟨rfl,Below.refl _ _⟩
theorem qpq.kept{w w':World}{v:Value}{L:List (ByteArray×ByteArray)}(h:qpq w v L)(hb:Below w.heap.size w w'):qpq w' v L:=by
 obtain⟨ao,cap,h0,h1,h2,h3⟩:=h;refine⟨ao,cap,h0,h1,h2,fun hn=>?_⟩;obtain⟨b,e,hp⟩:=h3 hn;exact⟨b,e,fun k x hx=>(hb.cell (p:=⟨b,k*2,none⟩) (World.block_lt_of_cell? _ _ (hp.name k x hx))).trans (hp.name k x hx),fun k x hx=>(hb.cell (p:=⟨b,k*2+1,none⟩) (World.block_lt_of_cell? _ _ (hp.text k x hx))).trans (hp.text k x hx)⟩
structure Mki(w wr:World)(P R:Nat):Prop where
 pl:wr.heap[P]?=some (.cells #[.slice none 0 0] 77 (0,0))
 ft:wr.heap[R]?=some (.cells #[.int .i64 0,.int .i64 0,.string ⟨#[]⟩,.int .i64 0] 31 (0,0))
 below:Below w.heap.size w wr
 le:w.heap.size≤P∧w.heap.size≤R
 ne:P≠R
theorem Mki.next{w wr w':World}{P R:Nat}(h:Mki w wr P R)(hb:Below wr.heap.size wr w'):Mki w w' P R:=
 ⟨(hb.block _ (Array.getElem?_eq_some_iff.1 h.pl).1).trans h.pl,(hb.block _ (Array.getElem?_eq_some_iff.1 h.ft).1).trans h.ft,h.below.trans (hb.mono h.below.size),h.le,h.ne⟩
theorem Mki.keeps{w wr w':World}{P R B:Nat}(h:Mki w wr P R)(hk:q68 wr w')(hb:Below B wr w')(hB:w.heap.size≤B):Mki w w' P R:=
 ⟨(hk _ _ _ _ h.pl (by decide) (by decide)).trans h.pl,(hk _ _ _ _ h.ft (by decide) (by decide)).trans h.ft,h.below.trans (hb.mono hB),h.le,h.ne⟩
theorem Mki.start(w:World):Mki w ((w.alloc (.cells #[.slice none 0 0] 77)).alloc (.cells #[.int .i64 0,.int .i64 0,.string ⟨#[]⟩,.int .i64 0] 31)) w.heap.size (w.heap.size+1):=
 ⟨(heap_alloc_old _ _ (by simp)).trans (heap_alloc_new _ _),qal _ _ _ (by simp),(ba _).alloc (by simp) _,⟨Nat.le_refl _,by omega⟩,by omega⟩
theorem Mki.set{w wr:World}{P R:Nat}(h:Mki w wr P R)(u v0 v1 v2 v3:Value) :
  (((((wr.setCell ⟨P,0,none⟩ u).setCell ⟨R,0,none⟩ v0).setCell ⟨R,1,none⟩ v1).setCell ⟨R,2,none⟩ v2).setCell ⟨R,3,none⟩ v3).heap[P]?=some (.cells #[u] 77 (0,0)) ∧
  (((((wr.setCell ⟨P,0,none⟩ u).setCell ⟨R,0,none⟩ v0).setCell ⟨R,1,none⟩ v1).setCell ⟨R,2,none⟩ v2).setCell ⟨R,3,none⟩ v3).heap[R]?=some (.cells #[v0,v1,v2,v3] 31 (0,0)) ∧
  Below w.heap.size w (((((wr.setCell ⟨P,0,none⟩ u).setCell ⟨R,0,none⟩ v0).setCell ⟨R,1,none⟩ v1).setCell ⟨R,2,none⟩ v2).setCell ⟨R,3,none⟩ v3):=by
 have h1:(wr.setCell ⟨P,0,none⟩ u).heap[P]?=some (.cells #[u] 77 (0,0)):=heap_setCell_same _ _ _ _ _ _ h.pl;have h2:(wr.setCell ⟨P,0,none⟩ u).heap[R]?=_:=(Below.heap_setCell _ _ _ _ h.ne.symm).trans h.ft;refine⟨?_,qg1 h2 _ _ _ _,?_⟩
 ·exact(Below.heap_setCell _ _ _ _ h.ne).trans ((Below.heap_setCell _ _ _ _ h.ne).trans ((Below.heap_setCell _ _ _ _ h.ne).trans ((Below.heap_setCell _ _ _ _ h.ne).trans h1)))
 ·exact((((h.below.setCell (p:=⟨P,0,none⟩) h.le.1 u).setCell (p:=⟨R,0,none⟩) h.le.2 v0).setCell (p:=⟨R,1,none⟩) h.le.2 v1).setCell (p:=⟨R,2,none⟩) h.le.2 v2).setCell (p:=⟨R,3,none⟩) h.le.2 v3
theorem Mki.sv{w wr:World}{P R:Nat}(h:Mki w wr P R){B:Nat}{F:Fix}{S:List Pl.Src}{vv:Value}{M:List Nat}{s:Pl.Sr}(hs:SvAt wr B F S vv M s)(u v0 v1 v2 v3:Value) :
  SvAt (((((wr.setCell ⟨P,0,none⟩ u).setCell ⟨R,0,none⟩ v0).setCell ⟨R,1,none⟩ v1).setCell ⟨R,2,none⟩ v2).setCell ⟨R,3,none⟩ v3) B F S vv M s:=
 (hs.other h.pl (by decide) (by decide) (by decide) (by decide) (by decide) 0 u).fault4 ((Below.heap_setCell _ _ _ _ h.ne.symm).trans h.ft) v0 v1 v2 v3
theorem Mki.beside{w wr:World}{P R:Nat}(h:Mki w wr P R){E:Nat}(hE:w.heap.size≤E)(h1:P≠E)(h2:R≠E)(v0 v1 v2 v3:Value):Mki w ((((wr.setCell ⟨E,0,none⟩ v0).setCell ⟨E,1,none⟩ v1).setCell ⟨E,2,none⟩ v2).setCell ⟨E,3,none⟩ v3) P R:=
 have e:∀q,q≠E→((((wr.setCell ⟨E,0,none⟩ v0).setCell ⟨E,1,none⟩ v1).setCell ⟨E,2,none⟩ v2).setCell ⟨E,3,none⟩ v3).heap[q]?=wr.heap[q]?:=fun _ hk=>(Below.heap_setCell _ _ _ _ hk).trans ((Below.heap_setCell _ _ _ _ hk).trans ((Below.heap_setCell _ _ _ _ hk).trans (Below.heap_setCell _ _ _ _ hk)))
 ⟨(e _ h1).trans h.pl,(e _ h2).trans h.ft,(((h.below.setCell (p:=⟨E,0,none⟩) hE v0).setCell (p:=⟨E,1,none⟩) hE v1).setCell (p:=⟨E,2,none⟩) hE v2).setCell (p:=⟨E,3,none⟩) hE v3,h.le,h.ne⟩
theorem Mki.cells{w wr:World}{P R:Nat}(h:Mki w wr P R):wr.cell? ⟨P,0,none⟩=some (.slice none 0 0)∧wr.frozen? ⟨P,0,none⟩=false∧wr.cell? ⟨R,0,none⟩=some (.int .i64 0)∧wr.cell? ⟨R,1,none⟩=some (.int .i64 0)∧wr.cell? ⟨R,2,none⟩=some (.string ⟨#[]⟩)∧wr.cell? ⟨R,3,none⟩=some (.int .i64 0)∧wr.frozen? ⟨R,0,none⟩=false∧wr.frozen? ⟨R,1,none⟩=false∧wr.frozen? ⟨R,2,none⟩=false∧wr.frozen? ⟨R,3,none⟩=false:=
 ⟨qaa h.pl 0 _ rfl,by simp[World.frozen?,h.pl],qaa h.ft 0 _ rfl,qaa h.ft 1 _ rfl,qaa h.ft 2 _ rfl,qaa h.ft 3 _ rfl,by simp[World.frozen?,h.ft],by simp[World.frozen?,h.ft],by simp[World.frozen?,h.ft],by simp[World.frozen?,h.ft]⟩
theorem qt8(T:ByteArray)(v:Value)(L:List (ByteArray×ByteArray))(w:World)(hA:qpq w v L)(hf:qbq L=false) :
  Calls Tryz.prog 29 #[.string T,v] w fun ed w'=>ed=.returned (.tuple #[.agg #[.slice none 0 0],.agg #[.int .i64 1,.int .i64 0,.string ⟨#[]⟩,.int .i64 0]])∧Below w.heap.size w w':=by
 have h1:=fun w1 (hb:Below w.heap.size w w1)=>qky v L w1 (hA.kept hb);rw[hf]at h1;have H1:=hd h1;clear h1 hf hA;go_enter Tryz.func29,Tryz.ntmps29
 go_wp2_with fail
 refine(H1.out _ (Mki.start w).below).mono ?_;rintro ed w1 ⟨rfl,hb⟩;have HK:=(show Hid _ from(Mki.start w).next hb);obtain⟨p0,q0,x0,x1,x2,x3,y0,y1,y2,y3⟩:=HK.out.cells;clear hb;go_wp2_with fail
 have hs:=HK.out.set (.slice none 0 0) (.int .i64 1) (.int .i64 0) (.string ⟨#[]⟩) (.int .i64 0);refine qha Tryz.results29 rfl w.heap.size (w.heap.size+1) _ _ rfl rfl hs.1 hs.2.1 _ _ Tryz.underlying77 Tryz.underlying31 rfl rfl (by kernel_rfl) (by kernel_rfl) ?_;exact⟨rfl,hs.2.2⟩
end Go.Proofs.YtfkhljmiehdgmaaGreatDoor
namespace Go.Proofs.YtfkhljmiehdgmaaGreatDoor
open Go.RowKit
def qfc(pv:Nat→Value):Nat→List ByteArray→List Value
 | _,[]=>[]
 | i,n::l=>.string n::pv i::qfc pv (i+1) l
theorem qgs(pv:Nat→Value):∀(l:List ByteArray) (i:Nat),(qfc pv i l).length=l.length*2
 | [],_=>rfl
 | n::l,i=>by show (qfc pv (i+1) l).length+2=_;rw[qgs pv l (i+1),List.length_cons];omega
theorem qmn(pv:Nat→Value):∀(l:List ByteArray) (i:Nat) (n:ByteArray),qfc pv i (l++[n])=qfc pv i l++[.string n,pv (i+l.length)]
 | [],i,n=>rfl
 | m::l,i,n=>by
   show Value.string m::pv i::qfc pv (i+1) (l++[n])=_;rw[qmn pv l (i+1) n,show i+1+l.length=i+(m::l).length by simp;omega];rfl
theorem qhr(pv:Nat→Value):∀(l:List ByteArray) (i k:Nat) (n:ByteArray),l[k]?=some n→(qfc pv i l)[k*2]?=some (.string n)∧(qfc pv i l)[k*2+1]?=some (pv (i+k))
 | [],i,k,n,h=>by simp at h
 | m::l,i,0,n,h=>by
   simp only[List.getElem?_cons_zero,Option.some.injEq]at h;subst h;exact⟨rfl,rfl⟩
 | m::l,i,k+1,n,h=>by
   have:=qhr pv l (i+1) k n (by simpa using h);rw[show i+1+k=i+(k+1) by omega]at this;rw[show (k+1)*2=k*2+2 by omega];exact this
theorem qmo{pv pv':Nat→Value}:∀(l:List ByteArray) (i:Nat),(∀j,j<l.length→pv (i+j)=pv' (i+j))→qfc pv i l=qfc pv' i l
 | [],_,_=>rfl
 | m::l,i,h=>by
   have h0:pv i=pv' i:=h 0 (by simp);have h1:=qmo (pv:=pv) (pv':=pv') l (i+1) (fun j hj=>by
    have:=h (j+1) (by rw[List.length_cons];omega)
    rwa [show i+(j+1)=i+1+j by omega]at this)
   show Value.string m::pv i::qfc pv (i+1) l=Value.string m::pv' i::qfc pv' (i+1) l;rw[h0,h1]
structure TpAt(w:World)(B g:Nat)(S:List Pl.Src)(N:List ByteArray)(pv:Nat→Value)(RL:Nat→List Rm)(vp ve:Value):Prop where
 blk:w.heap[g]?=some (.cells #[pv 0,vp,ve] 101 (0,0))
 le:B≤g
 parts:w.ownsRow B 134 2 vp N.length (qfc pv 1 N)
 row:∀i s,S[i]?=some s→w.ownsRow B 136 6 (pv i) (RL i).length (qd4 (RL i))∧RmsOf (RL i) s.parts
theorem TpAt.same{w w':World}{B g:Nat}{S:List Pl.Src}{N:List ByteArray}{pv:Nat→Value}{RL:Nat→List Rm}{vp ve:Value}(h:TpAt w B g S N pv RL vp ve)(hg:w'.heap[g]?=w.heap[g]?)(hp:∀k,vp.ownBlock=some k→w'.heap[k]?=w.heap[k]?)(hr:∀i s k,S[i]?=some s→(pv i).ownBlock=some k→w'.heap[k]?=w.heap[k]?):TpAt w' B g S N pv RL vp ve:=
 ⟨hg.trans h.blk,h.le,qac h.parts hp,fun i s hs=>⟨qac (h.row i s hs).1 fun k hk=>hr i s k hs hk,(h.row i s hs).2⟩⟩
theorem TpAt.kept{w w':World}{B g:Nat}{S:List Pl.Src}{N:List ByteArray}{pv:Nat→Value}{RL:Nat→List Rm}{vp ve:Value}(h:TpAt w B g S N pv RL vp ve)(hb:Below w.heap.size w w'):TpAt w' B g S N pv RL vp ve:=
 h.same (hb.block _ (lta h.blk)) (fun k hk=>hb.block k (h.parts.lt k hk).2) fun i s k hs hk=>hb.block k ((h.row i s hs).1.lt k hk).2
theorem TpAt.drew{w:World}{B g:Nat}{S:List Pl.Src}{N:List ByteArray}{pv:Nat→Value}{RL:Nat→List Rm}{vp ve:Value}(h:TpAt w B g S N pv RL vp ve):TpAt w.drew B g S N pv RL vp ve:=h.same rfl (fun _ _=>rfl) fun _ _ _ _ _=>rfl
theorem qka:(101:TypeId)≠134:=by decide
theorem qtf:(101:TypeId)≠136:=by decide
theorem qrr:(134:TypeId)≠136:=by decide
theorem TpAt.apart{w w1 w':World}{B g:Nat}{S:List Pl.Src}{N:List ByteArray}{pv:Nat→Value}{RL:Nat→List Rm}{vp ve:Value}(h:TpAt w B g S N pv RL vp ve)(hb:Below w.heap.size w w1)(Ha:w1.grownBy w' vp.ownBlock){k:Nat}{cs:Array Value}{t:TypeId}{fz:Nat×Nat}(hk:w.heap[k]?=some (.cells cs t fz))(ht:t≠134):w'.heap[k]?=w.heap[k]?:=by
 have ha:=(Array.getElem?_eq_some_iff.1 hk).1;refine(Ha.block k (Nat.lt_of_lt_of_le ha hb.size) (fun e=>?_)).trans (hb.block k ha);obtain⟨cur,hc⟩:=qad h.parts k e.symm;exact qae hk hc ht rfl
theorem TpAt.ahead{w w1 w':World}{B g:Nat}{S:List Pl.Src}{N:List ByteArray}{pv:Nat→Value}{RL:Nat→List Rm}{vp ve:Value}(h:TpAt w B g S N pv RL vp ve)(hb:Below w.heap.size w w1)(ha:w1.grownBy w' vp.ownBlock):w'.cell? ⟨g,1,none⟩=some vp∧w'.frozen? ⟨g,1,none⟩=false:=by
 have hg:=(h.apart hb ha h.blk qka).trans h.blk;exact⟨qaa hg 1 _ rfl,frozen_of_row _ _ 1 _ _ hg⟩
theorem TpAt.more{w w1 w':World}{B g:Nat}{S:List Pl.Src}{N:List ByteArray}{pv:Nat→Value}{RL:Nat→List Rm}{vp ve vp':Value}(h:TpAt w B g S N pv RL vp ve)(Hb:S.length=N.length+1)(hb:Below w.heap.size w w1){n:ByteArray}{u:Value}{R:List Rm}{s:Pl.Src}(hu:w.ownsRow B 136 6 u R.length (qd4 R))(hR:RmsOf R s.parts)(Ha:w'.ownsRow B 134 2 vp' (N.length+1) (qfc pv 1 N++[.string n,u]))(Hc:w1.grownBy w' vp.ownBlock)(He:vp'.ownBlock≠some g) :
  TpAt (w'.setCell ⟨g,1,none⟩ vp') B g (S++[s]) (N++[n]) (fun i=>if i=N.length+1 then u else pv i) (fun i=>if i=N.length+1 then R else RL i) vp' ve:=by
 have hg:=(h.apart hb Hc h.blk qka).trans h.blk;have ha:∀k,k≠g→(w'.setCell ⟨g,1,none⟩ vp').heap[k]?=w'.heap[k]?:=fun k hk=>Below.heap_setCell _ _ _ _ hk;have he:∀(v:Value) (m:Nat) (xs:List Value),w.ownsRow B 136 6 v m xs→(w'.setCell ⟨g,1,none⟩ vp').ownsRow B 136 6 v m xs:=fun v m xs hv=>qac hv fun k hk=>by
  obtain⟨cur,hc⟩:=qad hv k hk;exact(ha k (fun e=>qae h.blk hc qtf e.symm)).trans (h.apart hb Hc hc qrr.symm)
 refine⟨?_,h.le,?_,fun i s' hs=>?_⟩
 ·rw[show (if 0=N.length+1 then u else pv 0)=pv 0 from if_neg (by omega)]
  exact heap_setCell_same w' g 1 _ _ _ hg
 ·rw[List.length_append,qmn,qmo (pv':=pv) N 1 (fun j hj=>if_neg (by omega)),if_pos (by omega)]
  exact qac Ha fun k hk=>ha k (fun e=>He (by rw[←e];exact hk))
 ·by_cases q:i<S.length
  ·rw[List.getElem?_append_left q]at hs
   rw[if_neg (by omega),if_neg (by omega)];exact⟨he _ _ _ (h.row i s' hs).1,(h.row i s' hs).2⟩
  ·have h1:=(List.getElem?_eq_some_iff.1 hs).1
   rw[List.length_append]at h1;simp only[List.length_cons,List.length_nil]at h1;have e:i=S.length:=by omega
   subst e;rw[List.getElem?_append_right (Nat.le_refl _),Nat.sub_self]at hs;simp at hs;subst hs;rw[if_pos Hb,if_pos Hb];exact⟨he _ _ _ hu,hR⟩
structure PoAt(w:World)(b o:Nat)(L:List (ByteArray×ByteArray)):Prop where
 name:∀(k:Nat) (x:ByteArray×ByteArray),L[k]?=some x→w.cell? ⟨b,o+k*2,none⟩=some (.string x.1)
 text:∀(k:Nat) (x:ByteArray×ByteArray),L[k]?=some x→w.cell? ⟨b,o+k*2+1,none⟩=some (.string x.2)
def qjz(w:World)(v:Value)(L:List (ByteArray×ByteArray)):Prop:=∃ao cap,v=.slice ao L.length cap∧L.length≤cap∧cap≤maxLen∧(L≠[]→∃b o,ao=some ⟨b,o,none⟩∧PoAt w b o L)
theorem qjz.kept{w w':World}{v:Value}{L:List (ByteArray×ByteArray)}(h:qjz w v L)(hb:Below w.heap.size w w'):qjz w' v L:=by
 obtain⟨ao,cap,h1,h2,h3,h4⟩:=h;refine⟨ao,cap,h1,h2,h3,fun hn=>?_⟩;obtain⟨b,o,h5,h6⟩:=h4 hn;exact⟨b,o,h5,fun k x hx=>(hb.cell (p:=⟨b,o+k*2,none⟩) (World.block_lt_of_cell? _ _ (h6.name k x hx))).trans (h6.name k x hx),fun k x hx=>(hb.cell (p:=⟨b,o+k*2+1,none⟩) (World.block_lt_of_cell? _ _ (h6.text k x hx))).trans (h6.text k x hx)⟩
def tkF(T:ByteArray)(L:List (ByteArray×ByteArray)):Pl.Ft×List Pl.Src:=if qbq L=false then(⟨1,0,[],0⟩,[]) else Pl.qa4 (([],T.data.toList)::qaq L)
def qpp(w:World)(T:ByteArray)(L:List (ByteArray×ByteArray))(e:Ending)(w':World):Prop:=
 (∃p,e=.returned (.tuple #[p,qkq (tkF T L).1])∧((tkF T L).1.code=0→∃g pv RL vp,p=.pointer (some ⟨g,0,none⟩)∧TpAt w' w.heap.size g (tkF T L).2 (L.map (·.1)) pv RL vp (.slice none 0 0)))∧Below w.heap.size w w'
def qm1:Array Value:=#[.int .i64 0,.int .i64 0,.string ⟨#[]⟩,.int .i64 0]
def set4(w:World)(g:Nat)(v0 v1 v2 v3:Value):World:=(((w.setCell ⟨g,0,none⟩ v0).setCell ⟨g,1,none⟩ v1).setCell ⟨g,2,none⟩ v2).setCell ⟨g,3,none⟩ v3
theorem qfg{w:World}{g:Nat}{t:TypeId}(h:w.heap[g]?=some (.cells qm1 t (0,0)))(v0 v1 v2 v3:Value):(set4 w g v0 v1 v2 v3).heap[g]?=some (.cells #[v0,v1,v2,v3] t (0,0)):=by
 have h1:=heap_setCell_same w g 0 _ _ v0 h;have h2:=heap_setCell_same _ g 1 _ _ v1 h1;have h3:=heap_setCell_same _ g 2 _ _ v2 h2;exact heap_setCell_same _ g 3 _ _ v3 h3
theorem qei{B:Nat}{a w:World}{g:Nat}(h:Below B a w)(hg:B≤g)(v0 v1 v2 v3:Value):Below B a (set4 w g v0 v1 v2 v3):=
 (((h.setCell (p:=⟨g,0,none⟩) hg v0).setCell (p:=⟨g,1,none⟩) hg v1).setCell (p:=⟨g,2,none⟩) hg v2).setCell (p:=⟨g,3,none⟩) hg v3
theorem qy7:(Tryz.prog.info? 31).map (·.size)=some 4:=by kernel_rfl
theorem qzu{w X:World}{T:ByteArray}{L:List (ByteArray×ByteArray)}{a:Act}{f:Pl.Ft}{p:Value}(hX:X.heap[w.heap.size]?=some (.cells #[.int .i64 f.code,.int .i64 f.kind,bs f.place,.int .i64 f.pos] 31 (0,0)))(hb:Below w.heap.size w X)(hv:(tkF T L).1=f)
  (hp:a.tmps.getD 5 undef=.pointer (some ⟨w.heap.size,0,none⟩)) (h4:a.tmps.getD 4 undef=p) (ha:a.defers=[]) (hk:f.code=0→∃g pv RL vp,p=.pointer (some ⟨g,0,none⟩)∧TpAt X w.heap.size g (tkF T L).2 (L.map (·.1)) pv RL vp (.slice none 0 0)) :
  bodyPost Tryz.prog Tryz.f32 (qpp w T L) .ret a X:=by
 refine bodyPost_ret (qd2 (cs:=#[.int .i64 f.code,.int .i64 f.kind,bs f.place,.int .i64 f.pos]) Tryz.results32 a.tmps _ w.heap.size _ hp (qaa hX) Tryz.underlying31 rfl qy7) ha ?_;rw[h4];exact⟨⟨p,by rw[hv];rfl,fun h=>hk (by rw[←hv];exact h)⟩,hb⟩
def tkZ(T:ByteArray)(L:List (ByteArray×ByteArray)):List (List UInt8×List UInt8):=([],T.data.toList)::qaq L
def tkS(Z:List (List UInt8×List UInt8)):List Pl.Src:=Z.map fun z=>⟨z.1,(Pl.qam z.2).2⟩
structure TkAt(w wr:World)(T:ByteArray)(L:List (ByteArray×ByteArray))(g k:Nat)(pv:Nat→Value)(RL:Nat→List Rm)(vp:Value):Prop where
 res:wr.heap[w.heap.size]?=some (.cells qm1 31 (0,0))
 tp:TpAt wr w.heap.size g (tkS ((tkZ T L).take (k+1))) ((L.map (·.1)).take k) pv RL vp (.slice none 0 0)
 below:Below w.heap.size w wr
 fine:∀i z,i<k+1→(tkZ T L)[i]?=some z→(Pl.qam z.2).1.1=0
theorem qmz{w:World}{B B' n k:Nat}{e:TypeId}{v:Value}{xs:List Value}(h:w.ownsRow B e k v n xs)(hB:B'≤B):w.ownsRow B' e k v n xs:=by
 refine⟨h.1,h.2.imp id ?_⟩;rintro⟨g,cap,cur,h1,h2,h3⟩;exact⟨g,cap,cur,h1,Nat.le_trans hB h2,h3⟩
theorem qxp:(Value.agg #[.string ⟨#[]⟩,.slice none 0 0]).cells.size=2:=rfl
theorem q05:(Tryz.prog.info? 134).map (fun i=>(i.zero,i.size,i.bytes))=some (some (.agg #[.string ⟨#[]⟩,.slice none 0 0]),2,40):=by kernel_rfl
theorem qts{P:Program}(w:World)(dT sT ty elem:TypeId)(g dLen dCap:Nat)(ao:Option Addr)(sLen sCap:Nat)(cur:Array Value)(t:TypeId)(cs:List Value)(hu:P.underlying dT=some (.slice elem))(hs:(P.info? elem).map (·.size)=some 2)
  (hg:w.heap[g]?=some (.cells cur t (0,0))) (hn:cs.length=sLen*2) (Hb:sLen≤dLen) (Ha:sLen≠0→∃a,ao=some a∧∀j v,cs[j]?=some v→w.cell? (a.add j)=some v) (hb:cs.length≤cur.size) (h1:∀v∈cs,v.oneCell'=true) :
  (Builtin.copy_ #[dT,sT] ty #[.slice (some ⟨g,0,none⟩) dLen dCap,.slice ao sLen sCap]).run P w=.ok (goInt sLen) (w.setRow g (cs++cur.toList.drop cs.length).toArray):=by
 have ha:=run_storeCells_at P g 0 t cs 0 cur w hg (by simpa using hb) h1;simp only[Nat.zero_add,Nat.add_zero,List.take_zero,List.nil_append]at ha;have hm:Nat.min sLen dLen=sLen:=Nat.min_eq_left Hb;cases hq:P.info? elem with
 | none=>simp[hq]at hs
 | some i=>
   have hi:i.size=2:=by simpa [hq] using hs
   by_cases h0:sLen=0
   ·subst h0
    obtain rfl:cs=[]:=List.eq_nil_of_length_eq_zero (by omega);have hl:=run_loadCells_list (P:=P) w ⟨0,0,none⟩ [] (fun j v hj=>by simp at hj);cases ao with
    | none=>simp[Builtin.copy_,run_underlying hu,Builtin.lenOf,Builtin.firstCells,sizeOf,typeInfo,hq,hm,ha]
    | some a=>
      have hl:=run_loadCells_list (P:=P) w a [] (fun j v hj=>by simp at hj);simp only[List.length_nil]at hl;simp[Builtin.copy_,run_underlying hu,Builtin.lenOf,Builtin.firstCells,sizeOf,typeInfo,hq,hm,hl,ha]
   ·obtain⟨a,rfl,hc⟩:=Ha h0
    have hl:=run_loadCells_list (P:=P) w a cs hc;simp[Builtin.copy_,run_underlying hu,Builtin.lenOf,Builtin.firstCells,sizeOf,typeInfo,hq,hi,hm,←hn,hl,ha]
theorem q77{α:Type}(l:List α)(d0 d1 u0 u1:α):(((l++[d0,d1]).toArray.setIfInBounds l.length u0).setIfInBounds (l.length+1) u1)=(l++[u0,u1]).toArray:=by simp
theorem q5o{w:World}{b o:Nat}{L:List (ByteArray×ByteArray)}(h:PoAt w b o L):∀j v,(qdk L)[j]?=some v→w.cell? ((⟨b,o,none⟩:Addr).add j)=some v:=by
 intro j v hj;have e:(⟨b,o,none⟩:Addr).add j=⟨b,o+j,none⟩:=by unfold Addr.add;split<;>simp_all
 rw[e];have hl:=(List.getElem?_eq_some_iff.1 hj).1;rw[qbd]at hl;obtain⟨x,hx⟩:∃x,L[j / 2]?=some x:=⟨L[j / 2]'(by omega),List.getElem?_eq_getElem (by omega)⟩;obtain⟨h1,h2⟩:=qe3 L (j / 2) x hx;rcases(show j=j / 2*2∨j=j / 2*2+1 by omega)with e | e
 ·rw[e]at hj ⊢
  rw[h1]at hj;obtain rfl:=Option.some.inj hj;exact h.name _ x hx
 ·rw[e]at hj ⊢
  rw[h2]at hj;obtain rfl:=Option.some.inj hj;exact h.text _ x hx
def qef(L:List (ByteArray×ByteArray)):List Value:=qdk L++[.string ⟨#[98,101,121,111,110,100]⟩,.string ⟨#[]⟩]
theorem q28(v:Value)(L:List (ByteArray×ByteArray))(w:World)(hA:qjz w v L)(hn:L.length≤2000000) :
  Calls Tryz.prog 27 #[v] w fun e w'=>e=.returned (.slice (some ⟨w.heap.size,0,none⟩) (L.length+1) (L.length+1))∧w'.heap[w.heap.size]?=some (.cells (qef L).toArray 38 (0,0))∧Below w.heap.size w w':=by
 obtain⟨ao,cap,rfl,hc,hm,hp⟩:=hA;obtain⟨i0,hi,Hf,He,Hg⟩:=info_parts qm0;obtain⟨W1,Hj,Hc,Hb⟩:=run_makeSlice_full (P:=Tryz.prog) w w.heap.size 22 38 i0 (.agg #[.string ⟨#[]⟩,.string ⟨#[]⟩]) 2 Tryz.underlying22 hi Hf He .i64 .i64 (L.length+1) (by omega) (by rw[Hg];omega) (by unfold maxLen;omega) (Nat.le_refl _);obtain⟨cur,Ha,Hi⟩:∃cur,W1.heap[w.heap.size]?=some (.cells cur 38 (0,0))∧cur.size=(L.length+1)*2:=by
  rcases Hc.2 with ⟨q,_⟩ | ⟨g,cap,cur,hv,_,hg,_,_,hs,_⟩
  ·cases q
  ·injection hv with e1 e2 e3
   injection e1 with e1;injection e1 with e1;subst e1 e3;exact⟨cur,hg,hs⟩
 have ha:Below w.heap.size w W1:=⟨Hb.os,Hb.tape,Hb.output,Hb.size,fun k hk=>Hb.block k hk (by simp)⟩;have hj:=fun ty=>qts (P:=Tryz.prog) W1 22 22 ty 38 w.heap.size (L.length+1) (L.length+1) ao L.length cap cur 38 (qdk L) Tryz.underlying22 (by rw[hi];simp[He]) Ha (qbd L) (by omega) (fun h0=>by
  obtain⟨b,o,rfl,he⟩:=hp (fun e=>h0 (by rw[e];rfl));exact⟨_,rfl,q5o (w:=W1) ⟨fun k x hx=>(ha.cell (p:=⟨b,o+k*2,none⟩) (World.block_lt_of_cell? _ _ (he.name k x hx))).trans (he.name k x hx),fun k x hx=>(ha.cell (p:=⟨b,o+k*2+1,none⟩) (World.block_lt_of_cell? _ _ (he.text k x hx))).trans (he.text k x hx)⟩⟩) (by rw[qbd,Hi];omega) (fun v hv=>by
  unfold qdk at hv;obtain⟨x,_,hx⟩:=List.mem_flatMap.1 hv;simp at hx;rcases hx with rfl | rfl<;>rfl)
 obtain⟨d0,d1,hd⟩:∃d0 d1,cur.toList.drop (qdk L).length=[d0,d1]:=by
  have:(cur.toList.drop (qdk L).length).length=2:=by rw[List.length_drop,qbd];simp[Hi];omega
  match hq:cur.toList.drop (qdk L).length,this with
  | [d0,d1],_=>exact⟨d0,d1,rfl⟩
 rw[hd]at hj;have hb:(W1.setRow w.heap.size (qdk L++[d0,d1]).toArray).heap[w.heap.size]?=some (.cells (qdk L++[d0,d1]).toArray 38 (0,0)):=setRow_heap W1 _ _ _ _ _ Ha;have hf:Below w.heap.size w (W1.setRow w.heap.size (qdk L++[d0,d1]).toArray):=⟨ha.os,ha.tape,ha.output,by simpa using ha.size,fun k hk=>by
  refine Eq.trans ?_ (ha.block k hk);simp only[World.setRow,Array.getElem?_modify];rw[if_neg (by omega)]⟩
 clear Ha Hc Hb ha hd hp;generalize W1.setRow w.heap.size (qdk L++[d0,d1]).toArray=W2 at hj hb hf;have c0:W2.cell? ⟨w.heap.size,L.length*2,none⟩=some d0:=qaa hb (L.length*2) _ (by simp[←qbd]);have c1:W2.cell? ⟨w.heap.size,L.length*2+1,none⟩=some d1:=qaa hb (L.length*2+1) _ (by simp[←qbd]);have f0:=frozen_of_row _ _ (L.length*2) _ _ hb;have f1:=frozen_of_row _ _ (L.length*2+1) _ _ hb;have HH:Hid (((W2.setCell ⟨w.heap.size,L.length*2,none⟩ (.string ⟨#[98,101,121,111,110,100]⟩)).setCell ⟨w.heap.size,L.length*2+1,none⟩ (.string ⟨#[]⟩)).heap[w.heap.size]?=some (.cells (qef L).toArray 38 (0,0))):=by
  have h1:=heap_setCell_same W2 w.heap.size (L.length*2) _ _ (.string ⟨#[98,101,121,111,110,100]⟩) hb;have h2:=heap_setCell_same _ w.heap.size (L.length*2+1) _ _ (.string ⟨#[]⟩) h1;rw[←qbd,q77]at h2;rw[←qbd];exact h2
 have HB:=(show Hid _ from(hf.setCell (p:=⟨w.heap.size,L.length*2,none⟩) (Nat.le_refl _) (.string ⟨#[98,101,121,111,110,100]⟩)).setCell (p:=⟨w.heap.size,L.length*2+1,none⟩) (Nat.le_refl _) (.string ⟨#[]⟩));rw[show ((L.length+1:Nat):Int)=(L.length:Int)+1 by omega]at Hj;have hl:IntKind.i64.wrap ((L.length:Int)+1)=(L.length:Int)+1:=by rw[IntKind.wrap_i64];omega
 have Hl:(L.length:Int)<(L.length:Int)+1:=by omega
 have Hk:L.length<L.length+1:=by omega
 clear hi Hf He Hg hb hf;go_enter Tryz.func27,Tryz.ntmps27
 go_wp2_with fail
 go_ret
 exact⟨rfl,HH.out,HB.out⟩
end Go.Proofs.YtfkhljmiehdgmaaGreatDoor
