/-
  Steps of the proof (texts laid together, blanks left out): EdK, PoG, PoH, PgMkE, PgMkY.
-/
import Derived.Test.YtfkhljmiehdgmaaGreatDoorTaAR
import Derived.Test.YtfkhljmiehdgmaaGreatDoorTaBF
import Derived.Test.YtfkhljmiehdgmaaGreatDoorTaBE
import Derived.Test.YtfkhljmiehdgmaaGreatDoorTaAV
namespace Go.Proofs.YtfkhljmiehdgmaaGreatDoor.Pl
structure PtB (n:Nat) (p:Pt):Prop where
 text:p.text.length≤n
 mate:p.mate≤n
theorem quh {t:List UInt8} {c:Ct} {a z:Nat} (h:∀ p∈c.parts,PtB t.length p):∀ p∈(c.addText t a z).parts,PtB t.length p:=by
 unfold Ct.addText
 split
 ·intro p hp
  simp only[List.mem_append,List.mem_singleton]at hp
  rcases hp with hp | rfl
  ·exact h p hp
  ·refine⟨?_,Nat.zero_le _⟩
   simp only[List.length_take,List.length_drop]; omega
 ·exact h
theorem q0h {N:Nat} {l:List Pt} (m n:Nat) (hn:n≤N) (h:∀ p∈l,PtB N p):∀ p∈qbm l m n,PtB N p:=by
 induction l generalizing m with
 | nil=>unfold qbm; simp
 | cons q l ih=>
   cases m with
   | zero=>
     intro p hp
     have e:qbm (q::l) 0 n={ q with mate:=n }::l:=rfl
     rw[e]at hp
     rcases List.mem_cons.1 hp with rfl | hp
     ·exact⟨(h q (by simp)).text,hn⟩
     ·exact h p (List.mem_cons_of_mem _ hp)
   | succ m=>
     intro p hp
     have e:qbm (q::l) (m+1) n=q::qbm l m n:=by simp[qbm]
     rw[e]at hp
     rcases List.mem_cons.1 hp with rfl | hp
     ·exact h p (by simp)
     ·exact ih m (fun r hr=>h r (List.mem_cons_of_mem _ hr)) p hp
theorem q7k {N:Nat} {c:Ct} {one:Tg} {a:Nat} (h:∀ p∈c.parts,PtB N p) (hn:one.name.length≤N) (hl:c.parts.length≤N) (ho:∀ m∈c.opened,m<c.parts.length):∀ p∈(c.take one a).2.parts,PtB N p:=by
 have hnew:PtB N ⟨one.kind,a,one.name,0⟩:=⟨hn,Nat.zero_le _⟩
 have happ:∀(l:List Pt) (q:Pt),(∀ p∈l,PtB N p)→PtB N q→∀ p∈l++[q],PtB N p:=fun l q hl hq p hp=>by
  simp only[List.mem_append,List.mem_singleton]at hp
  rcases hp with hp | rfl
  ·exact hl p hp
  ·exact hq
 unfold Ct.take
 by_cases h1:one.slip≠0
 ·rw[if_pos h1]; exact h
 rw[if_neg h1]
 by_cases h7:one.kind=7
 ·rw[if_pos h7]; exact h
 rw[if_neg h7]
 by_cases h8:one.kind=8
 ·rw[if_pos h8]; exact h
 rw[if_neg h8]
 by_cases h34:one.kind=3∨one.kind=4
 ·rw[if_pos h34]
  split
  ·exact h
  ·exact happ _ _ h hnew
 rw[if_neg h34]
 by_cases h5:one.kind=5
 ·rw[if_pos h5]
  split
  ·exact h
  ·rename_i m hm
   split
   ·exact h
   ·have:=ho m (List.mem_of_getLast? hm)
    exact happ _ _ (q0h _ _ hl h) ⟨hn,by show m≤N; omega⟩
 ·rw[if_neg h5]
  exact happ _ _ h hnew
theorem qsp (l:List UInt8):(qcg l).name.length≤l.length:=by
 have hnm:∀(k:Nat) (n:List UInt8),(qc4 k n).name.length≤n.length:=fun k n=>by
  unfold qc4
  split<;>split
  all_goals first | exact Nat.le_refl _ | exact Nat.zero_le _
 unfold qcg
 split
 ·exact Nat.zero_le _
 ·split
  ·unfold qga
   split
   ·exact Nat.zero_le _
   ·split
    ·split<;>exact Nat.zero_le _
    ·exact Nat.zero_le _
  ·split
   ·exact hnm _ _
   ·refine Nat.le_trans (hnm _ _) (Nat.le_trans (qka _ _) ?_)
    rw[List.length_drop]; omega
theorem q7o {t:List UInt8} {c:Ct} {a:Nat} (hc:CtOk t c a) (h:∀ p∈c.parts,PtB t.length p) :
  (∀ d,c.step t a=.over d→∀ p∈d.parts,PtB t.length p)∧(∀ d b,c.step t a=.next d b→∀ p∈d.parts,PtB t.length p):=by
 have hle:=hc.le
 cases hf1:(Go.Lib.cut (t.drop a) c.op).2.2 with
 | false=>
   rw[qkd hf1]
   refine⟨fun d e=>?_,fun d b e=>(by cases e)⟩
   injection e with e
   subst e
   exact quh h
 | true=>
   obtain⟨i1,hi1,hi2,hi3,hi4,hi5⟩:=qiq _ _ hf1
   rw[List.length_drop]at hi2
   cases hf2:(Go.Lib.cut (Go.Lib.cut (t.drop a) c.op).2.1 c.cl).2.2 with
   | false=>
     rw[qhm hf1 hf2]
     exact⟨fun d e=>(by cases e),fun d b e=>(by cases e)⟩
   | true=>
     obtain⟨i2,hj1,hj2,hj3,hj4,hj5⟩:=qiq _ _ hf2
     rw[hi4,List.length_drop,List.length_drop]at hj2
     obtain⟨one,h1⟩:∃ one,qcg (Go.Lib.trimS (Go.Lib.cut (Go.Lib.cut (t.drop a) c.op).2.1 c.cl).1 qbc)=one:=⟨_,rfl⟩
     have hn:=qsp (Go.Lib.trimS (Go.Lib.cut (Go.Lib.cut (t.drop a) c.op).2.1 c.cl).1 qbc)
     have hin:(Go.Lib.trimS (Go.Lib.cut (Go.Lib.cut (t.drop a) c.op).2.1 c.cl).1 qbc).length≤t.length:=by
      refine Nat.le_trans (qmp _ _).length_le ?_
      omega
     rw[h1]at hn
     generalize hO:(if one.kind≠2 then qdr t (a+(Go.Lib.cut (t.drop a) c.op).1.length) (a+(Go.Lib.cut (t.drop a) c.op).1.length+c.op.length+(Go.Lib.cut (Go.Lib.cut (t.drop a) c.op).2.1 c.cl).1.length+c.cl.length) else(a+(Go.Lib.cut (t.drop a) c.op).1.length,a+(Go.Lib.cut (t.drop a) c.op).1.length+c.op.length+(Go.Lib.cut (Go.Lib.cut (t.drop a) c.op).2.1 c.cl).1.length+c.cl.length))=o
     rw[ql8 hf1 hf2 one h1 _ _ rfl rfl o hO]
     have ho1:o.1≤a+(Go.Lib.cut (t.drop a) c.op).1.length:=by
      subst hO
      split
      ·exact(qns _ _ _ (by omega) (by omega)).1
      ·exact Nat.le_refl _
     have hck:=qhh hc o.1 (a+(Go.Lib.cut (t.drop a) c.op).1.length) (by omega) ho1 (by omega)
     refine⟨fun d e=>?_,fun d b e=>?_⟩
     ·split at e<;>cases e
     ·split at e
      ·cases e
      ·injection e with e1 e2
       subst e1
       exact q7k (quh h) (by omega) (Nat.le_trans hck.few hck.le) hck.wf.lt
theorem go_b (t:List UInt8):∀(n:Nat) (c:Ct) (a:Nat),CtOk t c a→(∀ p∈c.parts,PtB t.length p)→∀ p∈(Ct.go t n c a).2,PtB t.length p:=by
 intro n
 induction n with
 | zero=>intro c a _ _ p hp; cases hp
 | succ n ih=>
   intro c a hc h
   obtain⟨h2,h3⟩:=q7o hc h
   unfold Ct.go
   cases hs:c.step t a with
   | slip k p=>intro p hp; cases hp
   | over d=>exact h2 d hs
   | next d b=>exact ih d b (qfi hc hs).1 (h3 d b hs)
theorem q4m (t:List UInt8) (h:(qav t).1.1=0):t.length≤2000∧∀ p∈(qav t).2,PtB t.length p:=by
 have hg:=go_b t (t.length+1) Ct.start 0 (qhe t) (fun p hp=>by cases hp)
 unfold qav at h ⊢
 split at h
 ·cases h
 ·rename_i h1
  refine⟨by omega,?_⟩
  rw[if_neg h1]
  split
  ·exact hg
  ·intro p hp; cases hp
end Go.Proofs.YtfkhljmiehdgmaaGreatDoor.Pl
namespace Go.Proofs.YtfkhljmiehdgmaaGreatDoor
open Go.RowKit Go.Maps
theorem q5n (HB:qgn) (S:List Pl.Src) (hS:SrcsOk S):∀ k,ThrC S k:=by
 intro k
 induction k with
 | zero=>
   intro w B F vv M s e h hp hk ht
   have:=hp.inv.few
   have:=hp.inv.ends.few
   omega
 | succ k ih=>exact q5m HB S hS k ih
namespace Pl
theorem qnv {n:List UInt8} (h:qce n=true):n.length≤8:=by
 unfold qce at h
 simp only[Bool.and_eq_true,decide_eq_true_eq]at h
 exact h.2.1
theorem qpz:∀(Z:List (List UInt8×List UInt8)),(qa8 Z).1.code=0→(qa8 Z).2=(Z.map fun z=>⟨z.1,(qav z.2).2⟩)∧∀(i:Nat) z,Z[i]?=some z→(qav z.2).1.1=0
 | [],_=>⟨rfl,fun i z h=>by simp at h⟩
 | (n,t)::l,h=>by
   unfold qa8 at h ⊢
   by_cases h0:(qav t).1.1=0
   ·rw[if_neg (fun q=>q h0)]at h ⊢
    by_cases h1:(qa8 l).1.code=0
    ·rw[if_neg (fun q=>q h1)]at h ⊢
     obtain⟨k1,k2⟩:=qpz l h1
     refine⟨by rw[k1]; rfl,fun i z hz=>?_⟩
     cases i with
     | zero=>simp at hz; subst hz; exact h0
     | succ i=>exact k2 i z (by simpa using hz)
    ·rw[if_pos h1]at h; exact absurd h h1
   ·rw[if_pos h0]at h; cases h
end Pl
theorem q0d (t:List UInt8) (P:List (List UInt8×List UInt8)) (h6:P.length≤6) (ha:Pl.qgm (P.map (·.1))=true) (hc:(Pl.qa8 (([],t)::P)).1.code=0):SrcsOk (Pl.qa8 (([],t)::P)).2:=by
 obtain⟨h1,h2⟩:=Pl.qpz _ hc
 rw[h1]
 have hat:∀(i:Nat) (a:Pl.Src),((([],t)::P).map fun z=>(⟨z.1,(Pl.qav z.2).2⟩:Pl.Src))[i]?=some a→∃ z,(([],t)::P)[i]?=some z∧a=⟨z.1,(Pl.qav z.2).2⟩:=fun i a h=>by
  rw[List.getElem?_map]at h
  obtain⟨z,e1,e2⟩:=Option.map_eq_some_iff.1 h
  exact⟨z,e1,e2.symm⟩
 have hnm:∀(i:Nat) (z:List UInt8×List UInt8),(([],t)::P)[i+1]?=some z→(P.map (·.1))[i]?=some z.1:=fun i z h=>by
  rw[List.getElem?_cons_succ]at h
  rw[List.getElem?_map,h]; rfl
 have hargs:=(Pl.qf4 _).1 ha
 refine⟨by simp; omega,fun i j a b hi hj h3 h4 he=>?_,fun i a h3=>?_,fun i a h3=>?_,fun i a h3=>?_⟩
 ·obtain⟨i,rfl⟩:∃ k,i=k+1:=⟨i - 1,by omega⟩
  obtain⟨j,rfl⟩:∃ k,j=k+1:=⟨j - 1,by omega⟩
  obtain⟨z,e1,rfl⟩:=hat _ _ h3
  obtain⟨y,e2,rfl⟩:=hat _ _ h4
  have he:z.1=y.1:=he
  have n1:=hnm i z e1
  have n2:=hnm j y e2
  rcases Nat.lt_trichotomy i j with q | q | q
  ·exact absurd (he▸n1) ((hargs j y.1 n2).2 i q)
  ·omega
  ·exact absurd (he▸n2) ((hargs i z.1 n1).2 j q)
 ·obtain⟨z,e1,rfl⟩:=hat _ _ h3
  show z.1.length≤_
  cases i with
  | zero=>simp at e1; subst e1; simp
  | succ i=>have:=Pl.qnv (hargs i z.1 (hnm i z e1)).1; omega
 ·obtain⟨z,e1,rfl⟩:=hat _ _ h3
  have hz:=h2 i z e1
  have hb:=Pl.q4m z.2 hz
  have hk:=Pl.qir z.2 hz
  have hin:=Pl.q16 z.2
  refine⟨Nat.le_trans hk.2 hb.1,fun p hp=>⟨Nat.le_trans (hb.2 p hp).text hb.1,Nat.le_trans (hin.2 p hp).pos hb.1,Nat.le_trans (hb.2 p hp).mate hb.1⟩⟩
 ·obtain⟨z,e1,rfl⟩:=hat _ _ h3
  exact(Pl.qir z.2 (h2 i z e1)).1
theorem qgs {P:Program} {fn:Func} {R:Ending→World→Prop} {a:Act} {w:World} {p q:Tmp} {tp tq:TypeId} (h:fn.results=#[.cell p tp,.cell q tq]) (hdf:a.defers=[]) (g1 g2:Nat) (c1 c2:Array Value) (hp:a.tmps.getD p undef=.pointer (some ⟨g1,0,none⟩)) (hq:a.tmps.getD q undef=.pointer (some ⟨g2,0,none⟩))
  (hb1:w.heap[g1]?=some (.cells c1 tp (0,0))) (hb2:w.heap[g2]?=some (.cells c2 tq (0,0))) (d1 d2:TypeDesc) (hu1:P.underlying tp=some d1) (hu2:P.underlying tq=some d2) (hd1:aggD d1=true) (hd2:aggD d2=true) (hi1:(P.info? tp).map (·.size)=some c1.size) (hi2:(P.info? tq).map (·.size)=some c2.size) (hR:R (.returned (.tuple #[.agg c1,.agg c2])) w):bodyPost P fn R .ret a w:=by
 refine bodyPost_ret ?_ hdf hR
 have hl1:=qbw (P:=P) w g1 tp c1 d1 (qaa hb1) hu1 (by cases d1<;>first | rfl | cases hd1) hi1
 have hl2:=qbw (P:=P) w g2 tq c2 d2 (qaa hb2) hu2 (by cases d2<;>first | rfl | cases hd2) hi2
 rw[Array.getD_eq_getD_getElem?]at hp hq
 simp only[results,h]
 simp[hp,hq,asAddr,hl1,hl2]
def qfz (L:List (ByteArray×ByteArray)):Bool:=decide (L.length≤6) && Pl.qgm (qch L)
theorem qjt (L:List (ByteArray×ByteArray)):(qa9 L).map (·.1)=qch L:=by
 unfold qa9 qch
 rw[List.map_map]; rfl
theorem qj3 (v:Value) (L:List (ByteArray×ByteArray)) (w:World) (hA:qop w v L):Calls Tryz.prog 43 #[v] w fun e w'=>e=.returned (.bool (qfz L))∧Below w.heap.size w w':=by
 obtain⟨ao,cap,rfl,h1,h2,h3⟩:=hA
 unfold qfz
 by_cases h6:L.length≤6
 ·rw[decide_eq_true h6,Bool.true_and]
  by_cases hn:L=[]
  ·subst hn
   refine(quf ao cap w).mono ?_
   rintro e w' ⟨rfl,rfl⟩
   exact⟨rfl,Below.refl _ _⟩
  ·obtain⟨b,rfl,hp⟩:=h3 hn
   refine(que b cap L w hp h6).mono ?_
   rintro e w' ⟨rfl,m,rfl⟩
   exact⟨rfl,qa3 (Below.refl _ _) m⟩
 ·rw[decide_eq_false h6,Bool.false_and]
  refine(qug ao L.length cap w (by omega)).mono ?_
  rintro e w' ⟨rfl,rfl⟩
  exact⟨rfl,Below.refl _ _⟩
theorem qop.kept {w w':World} {v:Value} {L:List (ByteArray×ByteArray)} (h:qop w v L) (hb:Below w.heap.size w w'):qop w' v L:=by
 obtain⟨ao,cap,h0,h1,h2,h3⟩:=h
 refine⟨ao,cap,h0,h1,h2,fun hn=>?_⟩
 obtain⟨b,e,hp⟩:=h3 hn
 exact⟨b,e,fun k x hx=>(hb.cell (p:=⟨b,k*2,none⟩) (World.block_lt_of_cell? _ _ (hp.name k x hx))).trans (hp.name k x hx),fun k x hx=>(hb.cell (p:=⟨b,k*2+1,none⟩) (World.block_lt_of_cell? _ _ (hp.text k x hx))).trans (hp.text k x hx)⟩
structure Mki (w wr:World) (P R:Nat):Prop where
 pl:wr.heap[P]?=some (.cells #[.slice none 0 0] 77 (0,0))
 ft:wr.heap[R]?=some (.cells #[.int .i64 0,.int .i64 0,.string ⟨#[]⟩,.int .i64 0] 31 (0,0))
 below:Below w.heap.size w wr
 le:w.heap.size≤P∧w.heap.size≤R
 ne:P≠R
theorem Mki.next {w wr w':World} {P R:Nat} (h:Mki w wr P R) (hb:Below wr.heap.size wr w'):Mki w w' P R:=
 ⟨(hb.block _ (Array.getElem?_eq_some_iff.1 h.pl).1).trans h.pl,(hb.block _ (Array.getElem?_eq_some_iff.1 h.ft).1).trans h.ft,h.below.trans (hb.mono h.below.size),h.le,h.ne⟩
theorem Mki.keeps {w wr w':World} {P R B:Nat} (h:Mki w wr P R) (hk:q4u wr w') (hb:Below B wr w') (hB:w.heap.size≤B):Mki w w' P R:=
 ⟨(hk _ _ _ _ h.pl (by decide) (by decide)).trans h.pl,(hk _ _ _ _ h.ft (by decide) (by decide)).trans h.ft,h.below.trans (hb.mono hB),h.le,h.ne⟩
theorem Mki.start (w:World):Mki w ((w.alloc (.cells #[.slice none 0 0] 77)).alloc (.cells #[.int .i64 0,.int .i64 0,.string ⟨#[]⟩,.int .i64 0] 31)) w.heap.size (w.heap.size+1):=
 ⟨(heap_alloc_old _ _ (by simp)).trans (heap_alloc_new _ _),qas _ _ _ (by simp),((Below.refl _ _).alloc (Nat.le_refl _) _).alloc (by simp) _,⟨Nat.le_refl _,by omega⟩,by omega⟩
theorem Mki.set {w wr:World} {P R:Nat} (h:Mki w wr P R) (u v0 v1 v2 v3:Value) :
  (((((wr.setCell ⟨P,0,none⟩ u).setCell ⟨R,0,none⟩ v0).setCell ⟨R,1,none⟩ v1).setCell ⟨R,2,none⟩ v2).setCell ⟨R,3,none⟩ v3).heap[P]?=some (.cells #[u] 77 (0,0)) ∧
  (((((wr.setCell ⟨P,0,none⟩ u).setCell ⟨R,0,none⟩ v0).setCell ⟨R,1,none⟩ v1).setCell ⟨R,2,none⟩ v2).setCell ⟨R,3,none⟩ v3).heap[R]?=some (.cells #[v0,v1,v2,v3] 31 (0,0)) ∧
  Below w.heap.size w (((((wr.setCell ⟨P,0,none⟩ u).setCell ⟨R,0,none⟩ v0).setCell ⟨R,1,none⟩ v1).setCell ⟨R,2,none⟩ v2).setCell ⟨R,3,none⟩ v3):=by
 have h1:(wr.setCell ⟨P,0,none⟩ u).heap[P]?=some (.cells #[u] 77 (0,0)):=heap_setCell_same _ _ _ _ _ _ h.pl
 have h2:(wr.setCell ⟨P,0,none⟩ u).heap[R]?=_:=(Below.heap_setCell _ _ _ _ h.ne.symm).trans h.ft
 refine⟨?_,qgh h2 _ _ _ _,?_⟩
 ·exact(Below.heap_setCell _ _ _ _ h.ne).trans ((Below.heap_setCell _ _ _ _ h.ne).trans ((Below.heap_setCell _ _ _ _ h.ne).trans ((Below.heap_setCell _ _ _ _ h.ne).trans h1)))
 ·exact((((h.below.setCell (p:=⟨P,0,none⟩) h.le.1 u).setCell (p:=⟨R,0,none⟩) h.le.2 v0).setCell (p:=⟨R,1,none⟩) h.le.2 v1).setCell (p:=⟨R,2,none⟩) h.le.2 v2).setCell (p:=⟨R,3,none⟩) h.le.2 v3
theorem Mki.sv {w wr:World} {P R:Nat} (h:Mki w wr P R) {B:Nat} {F:Fix} {S:List Pl.Src} {vv:Value} {M:List Nat} {s:Pl.Sr} (hs:SvAt wr B F S vv M s) (u v0 v1 v2 v3:Value) :
  SvAt (((((wr.setCell ⟨P,0,none⟩ u).setCell ⟨R,0,none⟩ v0).setCell ⟨R,1,none⟩ v1).setCell ⟨R,2,none⟩ v2).setCell ⟨R,3,none⟩ v3) B F S vv M s:=
 (hs.other h.pl (by decide) (by decide) (by decide) (by decide) (by decide) 0 u).fault4 ((Below.heap_setCell _ _ _ _ h.ne.symm).trans h.ft) v0 v1 v2 v3
theorem Mki.beside {w wr:World} {P R:Nat} (h:Mki w wr P R) {E:Nat} (hE:w.heap.size≤E) (h1:P≠E) (h2:R≠E) (v0 v1 v2 v3:Value):Mki w ((((wr.setCell ⟨E,0,none⟩ v0).setCell ⟨E,1,none⟩ v1).setCell ⟨E,2,none⟩ v2).setCell ⟨E,3,none⟩ v3) P R:=
 have e:∀ q,q≠E→((((wr.setCell ⟨E,0,none⟩ v0).setCell ⟨E,1,none⟩ v1).setCell ⟨E,2,none⟩ v2).setCell ⟨E,3,none⟩ v3).heap[q]?=wr.heap[q]?:=fun _ hk=>(Below.heap_setCell _ _ _ _ hk).trans ((Below.heap_setCell _ _ _ _ hk).trans ((Below.heap_setCell _ _ _ _ hk).trans (Below.heap_setCell _ _ _ _ hk)))
 ⟨(e _ h1).trans h.pl,(e _ h2).trans h.ft,(((h.below.setCell (p:=⟨E,0,none⟩) hE v0).setCell (p:=⟨E,1,none⟩) hE v1).setCell (p:=⟨E,2,none⟩) hE v2).setCell (p:=⟨E,3,none⟩) hE v3,h.le,h.ne⟩
theorem Mki.cells {w wr:World} {P R:Nat} (h:Mki w wr P R):wr.cell? ⟨P,0,none⟩=some (.slice none 0 0)∧wr.frozen? ⟨P,0,none⟩=false∧wr.cell? ⟨R,0,none⟩=some (.int .i64 0)∧wr.cell? ⟨R,1,none⟩=some (.int .i64 0)∧wr.cell? ⟨R,2,none⟩=some (.string ⟨#[]⟩)∧wr.cell? ⟨R,3,none⟩=some (.int .i64 0)∧wr.frozen? ⟨R,0,none⟩=false∧wr.frozen? ⟨R,1,none⟩=false∧wr.frozen? ⟨R,2,none⟩=false∧wr.frozen? ⟨R,3,none⟩=false:=
 ⟨qaa h.pl 0 _ rfl,by simp[World.frozen?,h.pl],qaa h.ft 0 _ rfl,qaa h.ft 1 _ rfl,qaa h.ft 2 _ rfl,qaa h.ft 3 _ rfl,by simp[World.frozen?,h.ft],by simp[World.frozen?,h.ft],by simp[World.frozen?,h.ft],by simp[World.frozen?,h.ft]⟩
set_option maxRecDepth 100000 in
set_option maxHeartbeats 6400000 in
theorem qsy (T:ByteArray) (v:Value) (L:List (ByteArray×ByteArray)) (w:World) (hA:qop w v L) (hf:qfz L=false) :
  Calls Tryz.prog 29 #[.string T,v] w fun ed w'=>ed=.returned (.tuple #[.agg #[.slice none 0 0],.agg #[.int .i64 1,.int .i64 0,.string ⟨#[]⟩,.int .i64 0]])∧Below w.heap.size w w':=by
 have h1:=fun w1 (hb:Below w.heap.size w w1)=>qj3 v L w1 (hA.kept hb)
 rw[hf]at h1
 have H1:=(show Hid _ from h1)
 clear h1 hf hA
 go_enter Tryz.func29,Tryz.ntmps29
 go_wp2_with fail
 refine(H1.out _ (Mki.start w).below).mono ?_; rintro ed w1 ⟨rfl,hb⟩
 have HK:=(show Hid _ from(Mki.start w).next hb)
 obtain⟨p0,q0,x0,x1,x2,x3,y0,y1,y2,y3⟩:=HK.out.cells
 clear hb
 go_wp2_with fail
 have hs:=HK.out.set (.slice none 0 0) (.int .i64 1) (.int .i64 0) (.string ⟨#[]⟩) (.int .i64 0)
 refine qgs Tryz.results29 rfl w.heap.size (w.heap.size+1) _ _ rfl rfl hs.1 hs.2.1 _ _ Tryz.underlying77 Tryz.underlying31 rfl rfl (by kernel_rfl) (by kernel_rfl) ?_
 exact⟨rfl,hs.2.2⟩
end Go.Proofs.YtfkhljmiehdgmaaGreatDoor
namespace Go.Proofs.YtfkhljmiehdgmaaGreatDoor
open Go.RowKit
set_option maxRecDepth 100000 in
set_option maxHeartbeats 1600000 in
theorem qq7 (x:Pl.Sx) (b:UInt8) (w:World) (he:x.st.esc=false) :
  Calls Tryz.prog 94 #[qad x,.int .u8 b.toNat] w fun e w'=>e=.returned (qd4 (Pl.qby x.st.mode x.st.esc b) (!x.st.esc))∧Below w.heap.size w w':=by
 have HV:Hid (Pl.qby x.st.mode x.st.esc b=Pl.Mk.none):=by show _=_; unfold Pl.qby; rw[if_pos he]
 rw[HV.out]
 unfold qd4 qcw Pl.Mk.none qad qab bs
 rw[he]
 clear HV he
 go_enter Tryz.func94,Tryz.ntmps94
 go_wp2_with fail
 refine qaz Tryz.results94 (w.heap.size+1) _ _ Tryz.underlying160 rfl rfl (q1n w _ _) (by kernel_rfl) rfl ?_
 exact⟨rfl,(by repeat (first | refine Below.alloc ?_ (by simp<;>omega) _ | exact Below.refl _ _))⟩
theorem qv3 {m:Nat} {b:UInt8} (k:Nat) (r:Nat×Nat×List UInt8×Int) (hr:Pl.qe1[k]?=some r) (hn:(Pl.qe1.take k).find? (Pl.qfk m b)=none) (h:Pl.qfk m b r=true):Pl.qby m true b=⟨false,r.2.2.2,0,0⟩:=by
 unfold Pl.qby
 rw[if_neg (by simp),Pl.qqk _ k r hr hn h]
theorem qtm {m:Nat} {b:UInt8} (hn:(Pl.qe1.take 3).find? (Pl.qfk m b)=none):Pl.qby m true b=Pl.Mk.none:=by
 unfold Pl.qby
 rw[if_neg (by simp),show Pl.qe1=Pl.qe1.take 3 from rfl,hn]
structure EscAt (w0 w:World) (g:Nat) (x:Pl.Sx):Prop where
 at':SxAt w g x
 res:qb7 5 w (g+1)
 below:Below g w0 w
 eq:w0.heap.size=g
theorem EscAt.alloc {w0 w:World} {g:Nat} {x:Pl.Sx} (h:EscAt w0 w g x) (o:Obj):EscAt w0 (w.alloc o) g x:=
 ⟨h.at'.kept ((Below.refl _ w).alloc (Nat.le_refl _) o) (by have:=h.res.lt; omega),h.res.alloc o,h.below.alloc (by have:=h.res.lt; omega) o,h.eq⟩
set_option maxRecDepth 100000 in
set_option maxHeartbeats 3200000 in
theorem qo1 (x:Pl.Sx) (b:UInt8) (w:World) (ht:PTabs w) (he:x.st.esc=true) :
  Calls Tryz.prog 94 #[qad x,.int .u8 b.toNat] w fun e w'=>e=.returned (qd4 (Pl.qby x.st.mode x.st.esc b) (!x.st.esc))∧Below w.heap.size w w':=by
 have HE:EscAt w ((w.alloc (.cells (qab x) 162)).alloc (.cells #[.bool false,.bool false,.int .i64 0,.int .i64 0,.int .i64 0] 160)) w.heap.size x:=
  ⟨(qg9 w x _).kept ((Below.refl _ _).alloc (Nat.le_refl _) _) (by simp),qm7 5 _ _ _ _ (by simp) rfl,((Below.refl _ _).alloc (Nat.le_refl _) _).alloc (by simp) _,rfl⟩
 have HE:=(show Hid _ from HE)
 rw[he]
 have HX:=(show Hid _ from he)
 have HT:=(show Hid _ from ht)
 clear he ht
 unfold qd4 qcw
 unfold qad
 unfold qab bs at HE ⊢
 rw[HX.out]at HE ⊢
 go_enter Tryz.func94,Tryz.ntmps94
 go_wp2_with fail
 go_loopw [5,6,12] (fun _ _ i wr=>∃ k:Nat,k≤3∧i=.int .i64 k∧Hid (EscAt w wr w.heap.size x∧(Pl.qe1.take k).find? (Pl.qfk x.st.mode b)=none)) (fun _ _ i _=>3 - (intOf i).toNat)
 case atStart=>exact⟨0,by omega,rfl,HE.out,rfl⟩
 case round=>
  obtain⟨k,hk,rfl,HR⟩:=hrel
  clear HE
  by_cases hlt:k<3
  ·obtain⟨r,hr⟩:∃ r,Pl.qe1[k]?=some r:=⟨_,List.getElem?_eq_getElem (show k<Pl.qe1.length from hlt)⟩
   have htr:PTabs wr:=HT.out.kept HR.out.1.below
   obtain⟨c0,c1,c2,c3⟩:=q3u htr.le k r hr
   rw[Nat.mul_comm 4 k]at c0 c1 c2 c3
   unfold bs at c2
   have HN:=(show Hid _ from HR.out.2)
   have HR':=(show Hid _ from HR.out.1)
   have HRR:=(show Hid _ from hr)
   have hlt':(k:Int)<3:=by omega
   have q0:=fun o=>(HR.out.1.alloc o).at'.mode
   clear htr hr
   by_cases h1:r.1≤x.st.mode
   ·have h1':(r.1:Int)≤(x.st.mode:Int):=by omega
    by_cases h2:x.st.mode≤r.2.1
    ·have h2':(x.st.mode:Int)≤(r.2.1:Int):=by omega
     by_cases h3:Pl.qa0 b r.2.2.1=true
     ·have HV:=(show Hid _ from qv3 k r HRR.out HN.out (by unfold Pl.qfk; rw[decide_eq_true h1,decide_eq_true h2,h3]; rfl))
      have hslot:=HR'.out.res
      have hbel:=HR'.out.below
      obtain⟨v0,p0⟩:=HR'.out.res.cellA 0 (by omega)
      obtain⟨v1,p1⟩:=HR'.out.res.cellA 1 (by omega)
      obtain⟨v2,p2⟩:=HR'.out.res.cellA 2 (by omega)
      obtain⟨v3,p3⟩:=HR'.out.res.cellA 3 (by omega)
      obtain⟨v4,p4⟩:=HR'.out.res.cellA 4 (by omega)
      have f0:=HR'.out.res.thawA 0
      have f1:=HR'.out.res.thawA 1
      have f2:=HR'.out.res.thawA 2
      have f3:=HR'.out.res.thawA 3
      have f4:=HR'.out.res.thawA 4
      clear HR
      go_wp2_with (go_at_call 130; refine(qb2 b _ r.2.2.1 _ rfl h3).mono ?_; rintro e w' ⟨x',hx',rfl,rfl⟩)
      refine qc7 Tryz.results94 (w.heap.size+1) _ Tryz.underlying160 rfl (by kernel_rfl) rfl (hslot.alloc _) rfl _ _ _ _ _ ?_
      rw[HV.out]
      exact⟨rfl,qe7 (hbel.alloc hbel.size _) (by omega) _ _ _ _ _⟩
     ·have h3:=Bool.eq_false_iff.2 h3
      have HV:=(show Hid _ from Pl.qcx (Pl.qfk x.st.mode b) k r HRR.out HN.out (by unfold Pl.qfk; rw[h3]; simp))
      clear HR
      go_wp2_with (go_at_call 130; refine(qb4 b _ r.2.2.1 _ rfl h3).mono ?_; rintro e w' ⟨rfl,rfl⟩)
      go_roundw
      case rel=>exact⟨k+1,by omega,by go_num,HR'.out.alloc _,HV.out⟩
      case measure=>simp[intOf]; omega
    ·have h2':decide (x.st.mode≤r.2.1)=false:=decide_eq_false h2
     have HV:=(show Hid _ from Pl.qcx (Pl.qfk x.st.mode b) k r HRR.out HN.out (by unfold Pl.qfk; rw[decide_eq_false h2]; simp))
     clear HR h2
     go_wp2_with fail
     go_roundw
     case rel=>exact⟨k+1,by omega,by go_num,HR'.out.alloc _,HV.out⟩
     case measure=>simp[intOf]; omega
   ·have h1':decide (r.1≤x.st.mode)=false:=decide_eq_false h1
    have HV:=(show Hid _ from Pl.qcx (Pl.qfk x.st.mode b) k r HRR.out HN.out (by unfold Pl.qfk; rw[decide_eq_false h1]; simp))
    clear HR h1
    go_wp2_with fail
    go_roundw
    case rel=>exact⟨k+1,by omega,by go_num,HR'.out.alloc _,HV.out⟩
    case measure=>simp[intOf]; omega
  ·obtain rfl:k=3:=by omega
   have HV:=(show Hid _ from qtm HR.out.2)
   have hslot:=HR.out.1.res
   have hbel:=HR.out.1.below
   obtain⟨v0,p0⟩:=hslot.cell 0 (by omega)
   obtain⟨v1,p1⟩:=hslot.cell 1 (by omega)
   obtain⟨v2,p2⟩:=hslot.cell 2 (by omega)
   obtain⟨v3,p3⟩:=hslot.cell 3 (by omega)
   obtain⟨v4,p4⟩:=hslot.cell 4 (by omega)
   have f0:=hslot.thaw 0
   have f1:=hslot.thaw 1
   have f2:=hslot.thaw 2
   have f3:=hslot.thaw 3
   have f4:=hslot.thaw 4
   clear HR
   go_wp2_with fail
   refine qc7 Tryz.results94 (w.heap.size+1) _ Tryz.underlying160 rfl (by kernel_rfl) rfl hslot rfl _ _ _ _ _ ?_
   rw[HV.out]
   exact⟨rfl,qe7 hbel (by omega) _ _ _ _ _⟩
theorem qn4 (x:Pl.Sx) (b:UInt8) (w:World) (ht:PTabs w) :
  Calls Tryz.prog 94 #[qad x,.int .u8 b.toNat] w fun e w'=>e=.returned (qd4 (Pl.qby x.st.mode x.st.esc b) (!x.st.esc))∧Below w.heap.size w w':=by
 by_cases he:x.st.esc=true
 ·exact qo1 x b w ht he
 ·exact qq7 x b w (Bool.eq_false_iff.2 he)
set_option maxRecDepth 100000 in
set_option maxHeartbeats 1600000 in
theorem qxy (x:Pl.Sx) (b:UInt8) (w:World) (hx:-1000≤x.ma.hex∧x.ma.hex≤1000) (hm:¬ Pl.qaq x.st.mode=1) :
  Calls Tryz.prog 133 #[qad x,.int .u8 b.toNat] w fun e w'=>e=.returned (qd4 (Pl.qam x.st.kind x.st.mode x.ma b) false)∧Below w.heap.size w w':=by
 have hl:Pl.qcr x.st.kind x.st.mode=false:=by
  unfold Pl.qcr
  rw[Bool.and_eq_false_iff]
  right
  rw[Bool.or_eq_false_iff,beq_eq_false_iff_ne,beq_eq_false_iff_ne]
  constructor
  all_goals
   intro q
   apply hm
   unfold Pl.qaq
   rw[if_pos (by omega)]
 have HV:Hid (Pl.qam x.st.kind x.st.mode x.ma b=⟨false,Pl.qei x.ma.hex b,0,0⟩):=by
  show _=_
  unfold Pl.qam
  rw[if_neg hm,hl,if_neg (by simp),if_neg (by simp)]
 rw[HV.out]
 have hI:=fun w=>qbp x w
 rw[hl]at hI
 have hW:=fun w=>qba x.st.mode w
 have hF:=fun w=>qda x.ma.hex b w hx.1 hx.2
 have hm':(Pl.qaq x.st.mode==1)=false:=by rw[beq_eq_false_iff_ne]; exact hm
 generalize Pl.qaq x.st.mode=WA at hW hm'
 generalize Pl.qei x.ma.hex b=FE at hF ⊢
 unfold qd4 qcw
 unfold qad qab bs at hI ⊢
 have HI:=(show Hid _ from hI)
 clear hI HV hl hm hx
 go_enter Tryz.func133,Tryz.ntmps133
 go_wp2_with (first
  | (go_at_call 182; refine(hF _).mono ?_; rintro e w' ⟨rfl,rfl⟩)
  | (go_at_call 154; refine(hW _).mono ?_; rintro e w' ⟨rfl,rfl⟩)
  | (go_at_call 153; refine(HI.out _).mono ?_; rintro e w' ⟨rfl,rfl⟩))
 refine qaz Tryz.results133 (w.heap.size+1) _ _ Tryz.underlying160 rfl rfl (qe3 w _ _ _ _) (by kernel_rfl) rfl ?_
 exact⟨rfl,(by repeat (first | refine Below.alloc ?_ (by simp<;>omega) _ | exact Below.refl _ _))⟩
set_option maxRecDepth 100000 in
set_option maxHeartbeats 1600000 in
theorem qm4 (x:Pl.Sx) (b:UInt8) (w:World) (hx:-1000≤x.ma.hex∧x.ma.hex≤1000) (hy:-1000≤x.ma.pct∧x.ma.pct≤1000) (hm:Pl.qaq x.st.mode=1) (hl:Pl.qcr x.st.kind x.st.mode=false) (hb:b=38) :
  Calls Tryz.prog 133 #[qad x,.int .u8 b.toNat] w fun e w'=>e=.returned (qd4 (Pl.qam x.st.kind x.st.mode x.ma b) false)∧Below w.heap.size w w':=by
 have HV:Hid (Pl.qam x.st.kind x.st.mode x.ma b=⟨true,Pl.qei x.ma.hex b,0,0⟩):=by
  show _=_
  have hr0:(b==38 || (x.ma.ref && Pl.qim b))=true:=by subst hb; rfl
  unfold Pl.qam
  rw[if_pos hm,hl,if_neg (by simp),if_neg (by simp)]
  rw[hr0]
 rw[HV.out]
 have hI:=fun w=>qbp x w
 rw[hl]at hI
 have hW:=fun w=>qba x.st.mode w
 rw[hm]at hW
 have hF:=fun w=>qda x.ma.hex b w hx.1 hx.2
 have hF2:=fun w=>qda x.ma.pct b w hy.1 hy.2
 have hFA:=fun w=>qdt x b w
 have hb':((b.toNat:Int)==38)=true:=by rw[hb]; rfl
 generalize Pl.qei x.ma.hex b=FE at hF ⊢
 generalize Pl.qei x.ma.pct b=FP at hF2
 clear hFA
 unfold qd4 qcw
 unfold qad qab bs at hI ⊢
 have HI:=(show Hid _ from hI)
 clear hI HV hl hm hx hy hb
 go_enter Tryz.func133,Tryz.ntmps133
 go_wp2_with (first
  | (go_at_call 182; refine(hF _).mono ?_; rintro e w' ⟨rfl,rfl⟩)
  | (go_at_call 154; refine(hW _).mono ?_; rintro e w' ⟨rfl,rfl⟩)
  | (go_at_call 183; refine(qff b _).mono ?_; rintro e w' ⟨rfl,rfl⟩)
  | (go_at_call 153; refine(HI.out _).mono ?_; rintro e w' ⟨rfl,rfl⟩))
 refine qaz Tryz.results133 (w.heap.size+1) _ _ Tryz.underlying160 rfl rfl (qe3 w _ _ _ _) (by kernel_rfl) rfl ?_
 exact⟨rfl,(by repeat (first | refine Below.alloc ?_ (by simp<;>omega) _ | exact Below.refl _ _))⟩
set_option maxRecDepth 100000 in
set_option maxHeartbeats 1600000 in
theorem qm2 (x:Pl.Sx) (b:UInt8) (w:World) (hx:-1000≤x.ma.hex∧x.ma.hex≤1000) (hy:-1000≤x.ma.pct∧x.ma.pct≤1000) (hm:Pl.qaq x.st.mode=1) (hl:Pl.qcr x.st.kind x.st.mode=false) (hb:¬ b=38) (hr:x.ma.ref=true) :
  Calls Tryz.prog 133 #[qad x,.int .u8 b.toNat] w fun e w'=>e=.returned (qd4 (Pl.qam x.st.kind x.st.mode x.ma b) false)∧Below w.heap.size w w':=by
 have HV:Hid (Pl.qam x.st.kind x.st.mode x.ma b=⟨(Pl.qim b),Pl.qei x.ma.hex b,0,0⟩):=by
  show _=_
  have hr0:(b==38 || (x.ma.ref && Pl.qim b))=(Pl.qim b):=by rw[beq_eq_false_iff_ne.2 hb,hr]; rfl
  unfold Pl.qam
  rw[if_pos hm,hl,if_neg (by simp),if_neg (by simp)]
  rw[hr0]
 rw[HV.out]
 have hI:=fun w=>qbp x w
 rw[hl]at hI
 have hW:=fun w=>qba x.st.mode w
 rw[hm]at hW
 have hF:=fun w=>qda x.ma.hex b w hx.1 hx.2
 have hF2:=fun w=>qda x.ma.pct b w hy.1 hy.2
 have hFA:=fun w=>qdt x b w
 have hb':((b.toNat:Int)==38)=false:=(Pl.qj2 b 38 (by omega)).trans (beq_eq_false_iff_ne.2 hb)
 generalize Pl.qei x.ma.hex b=FE at hF ⊢
 generalize Pl.qei x.ma.pct b=FP at hF2
 clear hFA
 unfold qd4 qcw
 unfold qad qab bs at hI ⊢
 rw[hr]at hI ⊢
 have HI:=(show Hid _ from hI)
 clear hI HV hl hm hx hy hb
 go_enter Tryz.func133,Tryz.ntmps133
 go_wp2_with (first
  | (go_at_call 182; refine(hF _).mono ?_; rintro e w' ⟨rfl,rfl⟩)
  | (go_at_call 154; refine(hW _).mono ?_; rintro e w' ⟨rfl,rfl⟩)
  | (go_at_call 183; refine(qff b _).mono ?_; rintro e w' ⟨rfl,rfl⟩)
  | (go_at_call 153; refine(HI.out _).mono ?_; rintro e w' ⟨rfl,rfl⟩))
 refine qaz Tryz.results133 (w.heap.size+1) _ _ Tryz.underlying160 rfl rfl (qe3 w _ _ _ _) (by kernel_rfl) rfl ?_
 exact⟨rfl,(by repeat (first | refine Below.alloc ?_ (by simp<;>omega) _ | exact Below.refl _ _))⟩
set_option maxRecDepth 100000 in
set_option maxHeartbeats 1600000 in
theorem qm3 (x:Pl.Sx) (b:UInt8) (w:World) (hx:-1000≤x.ma.hex∧x.ma.hex≤1000) (hy:-1000≤x.ma.pct∧x.ma.pct≤1000) (hm:Pl.qaq x.st.mode=1) (hl:Pl.qcr x.st.kind x.st.mode=false) (hb:¬ b=38) (hr:x.ma.ref=false) :
  Calls Tryz.prog 133 #[qad x,.int .u8 b.toNat] w fun e w'=>e=.returned (qd4 (Pl.qam x.st.kind x.st.mode x.ma b) false)∧Below w.heap.size w w':=by
 have HV:Hid (Pl.qam x.st.kind x.st.mode x.ma b=⟨false,Pl.qei x.ma.hex b,0,0⟩):=by
  show _=_
  have hr0:(b==38 || (x.ma.ref && Pl.qim b))=false:=by rw[beq_eq_false_iff_ne.2 hb,hr]; rfl
  unfold Pl.qam
  rw[if_pos hm,hl,if_neg (by simp),if_neg (by simp)]
  rw[hr0]
 rw[HV.out]
 have hI:=fun w=>qbp x w
 rw[hl]at hI
 have hW:=fun w=>qba x.st.mode w
 rw[hm]at hW
 have hF:=fun w=>qda x.ma.hex b w hx.1 hx.2
 have hF2:=fun w=>qda x.ma.pct b w hy.1 hy.2
 have hFA:=fun w=>qdt x b w
 have hb':((b.toNat:Int)==38)=false:=(Pl.qj2 b 38 (by omega)).trans (beq_eq_false_iff_ne.2 hb)
 generalize Pl.qei x.ma.hex b=FE at hF ⊢
 generalize Pl.qei x.ma.pct b=FP at hF2
 clear hFA
 unfold qd4 qcw
 unfold qad qab bs at hI ⊢
 rw[hr]at hI ⊢
 have HI:=(show Hid _ from hI)
 clear hI HV hl hm hx hy hb
 go_enter Tryz.func133,Tryz.ntmps133
 go_wp2_with (first
  | (go_at_call 182; refine(hF _).mono ?_; rintro e w' ⟨rfl,rfl⟩)
  | (go_at_call 154; refine(hW _).mono ?_; rintro e w' ⟨rfl,rfl⟩)
  | (go_at_call 183; refine(qff b _).mono ?_; rintro e w' ⟨rfl,rfl⟩)
  | (go_at_call 153; refine(HI.out _).mono ?_; rintro e w' ⟨rfl,rfl⟩))
 refine qaz Tryz.results133 (w.heap.size+1) _ _ Tryz.underlying160 rfl rfl (qe3 w _ _ _ _) (by kernel_rfl) rfl ?_
 exact⟨rfl,(by repeat (first | refine Below.alloc ?_ (by simp<;>omega) _ | exact Below.refl _ _))⟩
end Go.Proofs.YtfkhljmiehdgmaaGreatDoor
