/-
  Steps of the proof.
-/
import Derived.Laws.AppendOwnNone
import Derived.Test.YtfkhljmiehdgmaaGreatDoorCmBQ
namespace Go.Proofs.YtfkhljmiehdgmaaGreatDoor
open Go.RowKit
theorem Enm.setFar{K:Sk}{w0 wr:World}{W:List Pl.Vt}{vW:Value}{p':Pl.Sp}{ve':Value}{E':List Pl.Et}(h:Enm K w0 wr W vW p' ve' E')(hB:K.B≤w0.heap.size){g:Nat}{cs:Array Value}{fz:Nat×Nat}(hg:wr.heap[g]?=some (.cells cs 94 fz))(hb:w0.heap.size+1<g)(v0 v1 v2 v3 v4 v5:Value):Enm K w0 (set6 wr g v0 v1 v2 v3 v4 v5) W vW p' ve' E':=by
 have Ha:∀(k:Nat) (cs:Array Value) (t:TypeId) (fz:Nat×Nat),wr.heap[k]?=some (.cells cs t fz)→t≠94→(set6 wr g v0 v1 v2 v3 v4 v5).heap[k]?=wr.heap[k]?:=fun k cs t fz hk ht=>qci (qae hk hg ht) _ _ _ _ _ _;have ha:∀(e:TypeId) (sz n:Nat) (v:Value) (xs:List Value),wr.ownsRow K.B e sz v n xs→e≠94→(set6 wr g v0 v1 v2 v3 v4 v5).ownsRow K.B e sz v n xs:=fun e sz n v xs hv he=>qac hv fun k hk=>by
  obtain⟨cur,hc⟩:=qad hv k hk;exact Ha _ _ _ _ hc he
 exact⟨(qci (by omega) _ _ _ _ _ _).trans h.spot,(qci (by omega) _ _ _ _ _ _).trans h.res,⟨⟨(Ha _ _ _ _ h.at_.tp.blk (by decide)).trans h.at_.tp.blk,h.at_.tp.le,ha _ _ _ _ _ h.at_.tp.parts (by decide),fun i s hs=>⟨ha _ _ _ _ _ (h.at_.tp.row i s hs).1 (by decide),(h.at_.tp.row i s hs).2⟩⟩,ha _ _ _ _ _ h.at_.ends (by decide)⟩,ha _ _ _ _ _ h.wi (by decide),qbx h.ck.below (by omega) _ _ _ _ _ _,fun k cs t fz hk h1 h2=>(qci (by have:=(Array.getElem?_eq_some_iff.1 hk).1;omega) _ _ _ _ _ _).trans (h.ck.keep k cs t fz hk h1 h2)⟩
theorem EnAt.apart{w w1 w':World}{B g:Nat}{S:List Pl.Src}{N:List ByteArray}{pv:Nat→Value}{RL:Nat→List Rm}{vp ve:Value}{E:List Pl.Et}(h:EnAt w B g S N pv RL vp ve E)(hb:Below w.heap.size w w1)(Ha:w1.grownBy w' ve.ownBlock){k:Nat}{cs:Array Value}{t:TypeId}{fz:Nat×Nat}(hk:w.heap[k]?=some (.cells cs t fz))(ht:t≠201):w'.heap[k]?=w.heap[k]?:=by
 have ha:=(Array.getElem?_eq_some_iff.1 hk).1;refine(Ha.block k (Nat.lt_of_lt_of_le ha hb.size) (fun e=>?_)).trans (hb.block k ha);obtain⟨cur,hc⟩:=qad h.ends k e.symm;exact qae hk hc ht rfl
theorem EnAt.ahead{w w1 w':World}{B g:Nat}{S:List Pl.Src}{N:List ByteArray}{pv:Nat→Value}{RL:Nat→List Rm}{vp ve:Value}{E:List Pl.Et}(h:EnAt w B g S N pv RL vp ve E)(hb:Below w.heap.size w w1)(ha:w1.grownBy w' ve.ownBlock):w'.cell? ⟨g,2,none⟩=some ve∧w'.frozen? ⟨g,2,none⟩=false:=by
 have hg:=(h.apart hb ha h.tp.blk (by decide)).trans h.tp.blk;exact⟨qaa hg 2 _ rfl,frozen_of_row _ _ 2 _ _ hg⟩
theorem Enm.more{K:Sk}{w0 wr w1 w':World}{W:List Pl.Vt}{vW:Value}{p':Pl.Sp}{ve ve':Value}{E':List Pl.Et}(h:Enm K w0 wr W vW p' ve E')(hB:K.B≤w0.heap.size)(hb:Below wr.heap.size wr w1)(e:Pl.Et)(Hc:w'.ownsRow K.B 201 17 ve' (E'.length+1) (qhm E'++qet e))(he:w1.grownBy w' ve.ownBlock)(He:ve'.ownBlock=ve.ownBlock∨ve'.ownBlock=some w1.heap.size) :
  Enm K w0 (w'.setCell ⟨K.g,2,none⟩ ve') W vW p' ve' (E'++[e])∧∀(k:Nat) (cs:Array Value) (fz:Nat×Nat),wr.heap[k]?=some (.cells cs 94 fz)→(w'.setCell ⟨K.g,2,none⟩ ve').heap[k]?=wr.heap[k]?:=by
 have hg:=(h.at_.apart hb he h.at_.tp.blk (by decide)).trans h.at_.tp.blk;have Hf:=(lta h.at_.tp.blk);have Hg:=hb.size;have hi:=h.lt;have hf:ve'.ownBlock≠some K.g:=by
  intro q;rcases He with z | z
  ·rw[q]at z
   obtain⟨cur,hc⟩:=qad h.at_.ends K.g z.symm;exact qae h.at_.tp.blk hc (by decide) rfl
  ·rw[q]at z
   injection z with z;omega
 have Hb:∀k,k≠K.g→(w'.setCell ⟨K.g,2,none⟩ ve').heap[k]?=w'.heap[k]?:=fun k hk=>Below.heap_setCell _ _ _ _ hk;have ha:∀(k:Nat) (cs:Array Value) (t:TypeId) (fz:Nat×Nat),wr.heap[k]?=some (.cells cs t fz)→t≠201→t≠101→(w'.setCell ⟨K.g,2,none⟩ ve').heap[k]?=wr.heap[k]?:=fun k cs t fz hk h1 h2=>(Hb k (qae hk h.at_.tp.blk h2)).trans (h.at_.apart hb he hk h1);have Ha:∀(t:TypeId) (sz n:Nat) (v:Value) (xs:List Value),wr.ownsRow K.B t sz v n xs→t≠201→t≠101→(w'.setCell ⟨K.g,2,none⟩ ve').ownsRow K.B t sz v n xs:=fun t sz n v xs hv h1 h2=>qac hv fun k hk=>by
  obtain⟨cur,hc⟩:=qad hv k hk;exact ha _ _ _ _ hc h1 h2
 refine⟨⟨(ha _ _ _ _ h.spot (by decide) (by decide)).trans h.spot,(ha _ _ _ _ h.res (by decide) (by decide)).trans h.res,⟨⟨heap_setCell_same w' K.g 2 _ _ _ hg,h.at_.tp.le,Ha _ _ _ _ _ h.at_.tp.parts (by decide) (by decide),fun i s hs=>⟨Ha _ _ _ _ _ (h.at_.tp.row i s hs).1 (by decide) (by decide),(h.at_.tp.row i s hs).2⟩⟩,?_⟩,Ha _ _ _ _ _ h.wi (by decide) (by decide),?_,fun k cs t fz hk h1 h2=>?_⟩,fun k cs fz hk=>ha _ _ _ _ hk (by decide) (by decide)⟩
 ·rw[List.length_append,quu]
  exact qac Hc fun k hk=>Hb k (fun e=>hf (by rw[←e];exact hk))
 ·exact((h.ck.below.trans (hb.mono (by omega))).grown he (by omega) (fun q hq=>(World.ownsRow.lt h.at_.ends q hq).1)).setCell h.at_.tp.le _
 ·have:=h.ck.keep k cs t fz hk h1 h2
  exact(ha k cs t fz (this.trans hk) h1 h2).trans this
theorem q6t{B:Nat→List Pl.It}{R:List Pl.Vt}{r:Nat}{E:List Pl.Et}{W:List Pl.Vt}{n:Nat}{x:Pl.Sx}{e:Pl.Et}(h:Pl.EInv B R r E (W++[(n,x)]))(he:Pl.EtOk B R r e)(hn:(e.n,e.x)=(n,x)):Pl.EInv B R r (E++[e]) W:=by
 refine⟨fun u hu=>(List.mem_append.1 hu).elim (h.each u) fun q=>List.mem_singleton.1 q▸he,?_,fun u hu=>h.wins u (List.mem_append_left _ hu)⟩;rw[List.map_append,List.append_assoc,show [e].map (fun e=>(e.n,e.x))=[(n,x)] from by rw[List.map_singleton,hn]];exact(List.Perm.append_left _ List.perm_append_comm).nodup_iff.1 h.apart
theorem q6e:(Tryz.prog.info? 201).map (fun i=>(i.zero,i.size,i.bytes))=some (some (.agg #[.int .i64 0,.int .i64 0,.int .i64 0,.int .i64 0,.int .i64 0,.int .i64 0,.int .i64 0,.int .i64 0,.string ⟨#[]⟩,.bool false,.int .i64 0,.string ⟨#[]⟩,.string ⟨#[]⟩,.string ⟨#[]⟩,.string ⟨#[]⟩,.int .i64 0,.bool false]),17,176):=by kernel_rfl
structure Cw(B:Nat)(w w':World):Prop where
 below:Below B w w'
 keep:∀(k:Nat) (cs:Array Value) (t:TypeId) (fz:Nat×Nat),w.heap[k]?=some (.cells cs t fz)→(t≠201∧t≠101)∧t≠92∧t≠143→w'.heap[k]?=w.heap[k]?
structure WkAt(K:Sk)(w:World)(gw:Nat)(ve vS:Value)(E:List Pl.Et)(R:List Pl.Vt)(F:Pl.Ft):Prop where
 at_:K.at_ w ve E
 blk:w.heap[gw]?=some (.cells #[.pointer (some ⟨K.g,0,none⟩),vS,.int .i64 F.code,.int .i64 F.kind,bs F.place,.int .i64 F.pos] 92 (0,0))
 le:K.B≤gw
 seen:w.ownsRow K.B 143 10 vS R.length (qch R)
structure Tm(K:Sk)(w0 wr:World)(gw:Nat)(ve vS:Value)(E:List Pl.Et)(R:List Pl.Vt)(F:Pl.Ft)(p':Pl.Sp):Prop where
 spot:wr.heap[w0.heap.size]?=some (.cells (qag p') 94 (0,0))
 res:wr.heap[w0.heap.size+1]?=some (.cells #[.int .i64 0,.string ⟨#[]⟩,.string ⟨#[]⟩,.string ⟨#[]⟩,.string ⟨#[]⟩,.int .i64 0] 94 (0,0))
 wk:WkAt K wr gw ve vS E R F
 ck:Cw K.B w0 wr
def SlOf(pj:Value)(L off len:Nat)(v:Value):Prop:=∃ao cap,v=.slice ao len cap∧len≤cap∧(0<len→∃g cap0,pj=.slice (some ⟨g,0,none⟩) L cap0∧ao=some ⟨g,off*6,none⟩)
abbrev Sk.cl(K:Sk)(R:List Pl.Vt)(j i:Nat)(x:Pl.Sx):Prop:=Pl.Cl K.bd K.nm (Pl.qab K.S j) R i x
structure TrP(K:Sk)(R0 R:List Pl.Vt)(E0 E:List Pl.Et)(r0 r j off len:Nat)(x0:Pl.Sx):Prop where
 inv:Pl.EInv K.bd R r E []
 pre:R0 <+: R
 all:∀u∈R,Pl.Cm u.2∧u.1<K.N.length
 few:R.length≤257
 lenE:E0.length≤E.length
 up:r0≤r
 le:r≤r0+4000000*(E.length - E0.length)+4000000*(R.length - R0.length)+2000*len
 cl:R.length≤256→K.cl R j off x0∧∀v∈R,v∉R0→K.cl R (v.1+1) 0 v.2
def TrO(K:Sk)(w:World)(gw:Nat)(E:List Pl.Et)(R:List Pl.Vt)(r j off len:Nat)(x:Pl.Sx)(F:Pl.Ft)(e:Ending)(w':World):Prop:=
 ∃p' ok ve' vS' E' R' r',e=.returned (.tuple #[qat p',.bool ok])∧WkAt K w' gw ve' vS' E' R' F∧Cw K.B w w'∧TrP K R R' E E' r r' j off len x
def qzm(K:Sk)(k:Nat):Prop:=∀(w:World) (gw:Nat) (ve vS v:Value) (E:List Pl.Et) (R:List Pl.Vt) (r j off len:Nat) (x:Pl.Sx) (p:Pl.Sp) (F:Pl.Ft),
 WkAt K w gw ve vS E R F→SlOf (K.pv j) (Pl.qab K.S j).length off len v→j≤K.N.length→off+len≤(Pl.qab K.S j).length→((∀q,(Pl.qab K.S j)[off+len]?=some q→q.kind=5)∧∀(i:Nat) (q:Pl.Pt),off≤i→i<off+len→(Pl.qab K.S j)[i]?=some q→(q.kind=3∨q.kind=4)→q.mate<off+len) →
 Pl.EInv K.bd R r E []→Pl.Cm x→Pl.ParX x p→Pl.SpOk r p→(∀u∈R,Pl.Cm u.2∧u.1<K.N.length)→R.length≤256→K.B≤w.heap.size →
 (257 - R.length)*3000+len≤k→r+4000000*(429926418001 - E.length)+4000000*(257 - R.length)+2000*len≤1900000000000000000 →
 Calls Tryz.prog 33 #[.pointer (some ⟨gw,0,none⟩),v,qat p] w fun e w'=>TrO K w gw E R r j off len x F e w'
structure Tp(K:Sk)(R0 R:List Pl.Vt)(E0 E:List Pl.Et)(r0 r j off len i:Nat)(x0 x:Pl.Sx)(p:Pl.Sp):Prop where
 inv:Pl.EInv K.bd R r E []
 cm:Pl.Cm x
 par:Pl.ParX x p
 sp:Pl.SpOk r p
 pre:R0 <+: R
 all:∀u∈R,Pl.Cm u.2∧u.1<K.N.length
 few:R.length≤257
 lenE:E0.length≤E.length
 up:r0≤r
 le:r≤r0+4000000*(E.length - E0.length)+4000000*(R.length - R0.length)+2000*(i - off)
 lo:off≤i
 hi:i≤off+len
 cl:R.length≤256→(∀R2,(∀u∈R,u∈R2)→K.cl R2 j i x→K.cl R2 j off x0)∧∀v∈R,v∉R0→K.cl R (v.1+1) 0 v.2
section
variable {K:Sk}{w0 wr w1 w w':World}{gw:Nat}{ve vS ve' vS':Value}{E E' E0:List Pl.Et}{R R' R0:List Pl.Vt}{F:Pl.Ft}{p p':Pl.Sp}{r r' r0 j off len i:Nat}{x x' x0:Pl.Sx}{B:Nat}{pt:Pl.Pt}
theorem Cw.refl(B:Nat)(w:World):Cw B w w:=⟨Below.refl _ _,fun _ _ _ _ _ _=>rfl⟩
theorem Cw.trans{a b c:World}(h:Cw B a b)(k:Cw B b c):Cw B a c:=
 ⟨h.below.trans k.below,fun i cs t fz hi h1=>(k.keep i cs t fz ((h.keep i cs t fz hi h1).trans hi) h1).trans (h.keep i cs t fz hi h1)⟩
theorem Cw.of_below(h:Below w.heap.size w w')(hB:B≤w.heap.size):Cw B w w':=⟨h.mono hB,fun k _ _ _ hk _=>h.block k (Array.getElem?_eq_some_iff.1 hk).1⟩
theorem Cw.of_ck(h:Ck B w w'):Cw B w w':=⟨h.below,fun k cs t fz hk h1=>h.keep k cs t fz hk h1.1.1 h1.1.2⟩
theorem WkAt.kept(h:WkAt K w gw ve vS E R F)(hb:Below w.heap.size w w'):WkAt K w' gw ve vS E R F:=
 ⟨h.at_.kept hb,(hb.block _ (lta h.blk)).trans h.blk,h.le,qac h.seen fun q hq=>hb.block q (h.seen.lt q hq).2⟩
theorem WkAt.ended(h:WkAt K w gw ve vS E R F)(ha:Ck K.B w w')(Ha:K.at_ w' ve' E'):WkAt K w' gw ve' vS E' R F:=by
 refine⟨Ha,(ha.keep _ _ _ _ h.blk (by decide) (by decide)).trans h.blk,h.le,qac h.seen fun q hq=>?_⟩;obtain⟨cur,hc⟩:=qad h.seen q hq;exact ha.keep _ _ _ _ hc (by decide) (by decide)
theorem WkAt.set(h:WkAt K w gw ve vS E R F){g:Nat}{cs:Array Value}{fz:Nat×Nat}(hg:w.heap[g]?=some (.cells cs 94 fz))(v0 v1 v2 v3 v4 v5:Value):WkAt K (set6 w g v0 v1 v2 v3 v4 v5) gw ve vS E R F:=by
 have Ha:∀(k:Nat) (cs:Array Value) (t:TypeId) (fz:Nat×Nat),w.heap[k]?=some (.cells cs t fz)→t≠94→(set6 w g v0 v1 v2 v3 v4 v5).heap[k]?=w.heap[k]?:=fun k cs t fz hk ht=>qci (qae hk hg ht) _ _ _ _ _ _;have ha:∀(e:TypeId) (sz n:Nat) (v:Value) (xs:List Value),w.ownsRow K.B e sz v n xs→e≠94→(set6 w g v0 v1 v2 v3 v4 v5).ownsRow K.B e sz v n xs:=fun e sz n v xs hv he=>qac hv fun k hk=>by
  obtain⟨cur,hc⟩:=qad hv k hk;exact Ha _ _ _ _ hc he
 exact⟨⟨⟨(Ha _ _ _ _ h.at_.tp.blk (by decide)).trans h.at_.tp.blk,h.at_.tp.le,ha _ _ _ _ _ h.at_.tp.parts (by decide),fun i s hs=>⟨ha _ _ _ _ _ (h.at_.tp.row i s hs).1 (by decide),(h.at_.tp.row i s hs).2⟩⟩,ha _ _ _ _ _ h.at_.ends (by decide)⟩,(Ha _ _ _ _ h.blk (by decide)).trans h.blk,h.le,ha _ _ _ _ _ h.seen (by decide)⟩
theorem Cw.set(h:Cw B w0 w){g:Nat}(hg:w0.heap.size≤g)(hB:B≤g)(v0 v1 v2 v3 v4 v5:Value):Cw B w0 (set6 w g v0 v1 v2 v3 v4 v5):=
 ⟨qbx h.below hB _ _ _ _ _ _,fun k cs t fz hk h1=>(qci (by have:=(Array.getElem?_eq_some_iff.1 hk).1;omega) _ _ _ _ _ _).trans (h.keep k cs t fz hk h1)⟩
theorem Tm.lt(h:Tm K w0 wr gw ve vS E R F p):w0.heap.size+1<wr.heap.size:=(lta h.res)
theorem Tm.kept(h:Tm K w0 wr gw ve vS E R F p)(hb:Below wr.heap.size wr w')(hB:K.B≤w0.heap.size):Tm K w0 w' gw ve vS E R F p:=by
 have hl:=h.lt;exact⟨(hb.block _ (by omega)).trans h.spot,(hb.block _ hl).trans h.res,h.wk.kept hb,h.ck.trans (Cw.of_below hb (by omega))⟩
theorem Tm.drew(h:Tm K w0 wr gw ve vS E R F p):Tm K w0 wr.drew gw ve vS E R F p:=
 ⟨h.spot,h.res,⟨⟨h.wk.at_.tp.drew,qac h.wk.at_.ends fun _ _=>rfl⟩,h.wk.blk,h.wk.le,qac h.wk.seen fun _ _=>rfl⟩,h.ck.below.drew,h.ck.keep⟩
theorem Tm.trod(h:Tm K w0 wr gw ve vS E R F p)(hc:Cw K.B wr w')(hw:WkAt K w' gw ve' vS' E' R' F):Tm K w0 w' gw ve' vS' E' R' F p:=
 ⟨(hc.keep _ _ _ _ h.spot (by decide)).trans h.spot,(hc.keep _ _ _ _ h.res (by decide)).trans h.res,hw,h.ck.trans hc⟩
theorem Tm.ended(h:Tm K w0 wr gw ve vS E R F p)(ha:Ck K.B wr w')(Ha:K.at_ w' ve' E'):Tm K w0 w' gw ve' vS E' R F p:=h.trod (Cw.of_ck ha) (h.wk.ended ha Ha)
theorem Tm.set(h:Tm K w0 wr gw ve vS E R F p)(hB:K.B≤w0.heap.size)(q:Pl.Sp):Tm K w0 (set6 wr w0.heap.size (.int .i64 q.mode) (.string ⟨q.tag.toArray⟩) (.string ⟨q.attr.toArray⟩) (.string ⟨q.inside.toArray⟩) (.string ⟨q.run.toArray⟩) (.int .i64 q.far)) gw ve vS E R F q:=
 ⟨qg0 h.spot _ _ _ _ _ _,(qci (by omega) _ _ _ _ _ _).trans h.res,h.wk.set h.spot _ _ _ _ _ _,h.ck.set (Nat.le_refl _) hB _ _ _ _ _ _⟩
theorem Tm.setFar(h:Tm K w0 wr gw ve vS E R F p)(hB:K.B≤w0.heap.size){g:Nat}{cs:Array Value}{fz:Nat×Nat}(hg:wr.heap[g]?=some (.cells cs 94 fz))(ha:w0.heap.size+1<g)(v0 v1 v2 v3 v4 v5:Value):Tm K w0 (set6 wr g v0 v1 v2 v3 v4 v5) gw ve vS E R F p:=
 ⟨(qci (by omega) _ _ _ _ _ _).trans h.spot,(qci (by omega) _ _ _ _ _ _).trans h.res,h.wk.set hg _ _ _ _ _ _,h.ck.set (by omega) (by omega) _ _ _ _ _ _⟩
theorem Tm.out(h:Tm K w0 wr gw ve vS E R F p)(hB:K.B≤w0.heap.size)(v0 v1 v2 v3 v4 v5:Value):WkAt K (set6 wr (w0.heap.size+1) v0 v1 v2 v3 v4 v5) gw ve vS E R F∧Cw K.B w0 (set6 wr (w0.heap.size+1) v0 v1 v2 v3 v4 v5):=
 ⟨h.wk.set h.res _ _ _ _ _ _,h.ck.set (by omega) (by omega) _ _ _ _ _ _⟩
theorem WkAt.apart(h:WkAt K w gw ve vS E R F)(hb:Below w.heap.size w w1)(Ha:w1.grownBy w' vS.ownBlock){k:Nat}{cs:Array Value}{t:TypeId}{fz:Nat×Nat}(hk:w.heap[k]?=some (.cells cs t fz))(ht:t≠143):w'.heap[k]?=w.heap[k]?:=by
 have ha:=(Array.getElem?_eq_some_iff.1 hk).1;refine(Ha.block k (Nat.lt_of_lt_of_le ha hb.size) (fun e=>?_)).trans (hb.block k ha);obtain⟨cur,hc⟩:=qad h.seen k e.symm;exact qae hk hc ht rfl
theorem WkAt.ahead(h:WkAt K w gw ve vS E R F)(hb:Below w.heap.size w w1)(ha:w1.grownBy w' vS.ownBlock):w'.cell? ⟨gw,1,none⟩=some vS∧w'.frozen? ⟨gw,1,none⟩=false:=by
 have hg:=(h.apart hb ha h.blk (by decide)).trans h.blk;exact⟨qaa hg 1 _ rfl,frozen_of_row _ _ 1 _ _ hg⟩
theorem Tm.more(h:Tm K w0 wr gw ve vS E R F p)(hB:K.B≤w0.heap.size)(hb:Below wr.heap.size wr w1)(u:Pl.Vt)(Hc:w'.ownsRow K.B 143 10 vS' (R.length+1) (qch R++(qcf u.1 u.2.view).toList))(he:w1.grownBy w' vS.ownBlock)(He:vS'.ownBlock=vS.ownBlock∨vS'.ownBlock=some w1.heap.size) :
  Tm K w0 (w'.setCell ⟨gw,1,none⟩ vS') gw ve vS' E (R++[u]) F p:=by
 have hg:=(h.wk.apart hb he h.wk.blk (by decide)).trans h.wk.blk;have Hf:=(lta h.wk.blk);have Hg:=hb.size;have hi:=h.lt;have hf:vS'.ownBlock≠some gw:=by
  intro q;rcases He with z | z
  ·rw[q]at z
   obtain⟨cur,hc⟩:=qad h.wk.seen gw z.symm;exact qae h.wk.blk hc (by decide) rfl
  ·rw[q]at z
   injection z with z;omega
 have Hb:∀k,k≠gw→(w'.setCell ⟨gw,1,none⟩ vS').heap[k]?=w'.heap[k]?:=fun k hk=>Below.heap_setCell _ _ _ _ hk;have ha:∀(k:Nat) (cs:Array Value) (t:TypeId) (fz:Nat×Nat),wr.heap[k]?=some (.cells cs t fz)→t≠143→t≠92→(w'.setCell ⟨gw,1,none⟩ vS').heap[k]?=wr.heap[k]?:=fun k cs t fz hk h1 h2=>(Hb k (qae hk h.wk.blk h2)).trans (h.wk.apart hb he hk h1);have Ha:∀(t:TypeId) (sz n:Nat) (v:Value) (xs:List Value),wr.ownsRow K.B t sz v n xs→t≠143→t≠92→(w'.setCell ⟨gw,1,none⟩ vS').ownsRow K.B t sz v n xs:=fun t sz n v xs hv h1 h2=>qac hv fun k hk=>by
  obtain⟨cur,hc⟩:=qad hv k hk;exact ha _ _ _ _ hc h1 h2
 have a:=h.wk.at_;refine⟨(ha _ _ _ _ h.spot (by decide) (by decide)).trans h.spot,(ha _ _ _ _ h.res (by decide) (by decide)).trans h.res,⟨⟨⟨(ha _ _ _ _ a.tp.blk (by decide) (by decide)).trans a.tp.blk,a.tp.le,Ha _ _ _ _ _ a.tp.parts (by decide) (by decide),fun i s hs=>⟨Ha _ _ _ _ _ (a.tp.row i s hs).1 (by decide) (by decide),(a.tp.row i s hs).2⟩⟩,Ha _ _ _ _ _ a.ends (by decide) (by decide)⟩,heap_setCell_same w' gw 1 _ _ _ hg,h.wk.le,?_⟩,?_,fun k cs t fz hk h1=>?_⟩
 ·rw[List.length_append,qmk]
  exact qac Hc fun k hk=>Hb k (fun e=>hf (by rw[←e];exact hk))
 ·exact((h.ck.below.trans (hb.mono (by omega))).grown he (by omega) (fun q hq=>(World.ownsRow.lt h.wk.seen q hq).1)).setCell h.wk.le _
 ·have:=h.ck.keep k cs t fz hk h1
  exact(ha k cs t fz (this.trans hk) h1.2.2 h1.2.1).trans this
theorem qu1{W:List Pl.Vt}(h:Pl.EInv K.bd R r E W)(hp:R <+: R'):Pl.EInv K.bd R' r E W:=⟨fun e he=>⟨(h.each e he).cm,Pl.qy3 (h.each e he).ins hp,(h.each e he).sp,(h.each e he).yes,(h.each e he).no⟩,h.apart,fun u hu=>⟨Pl.qy3 (h.wins u hu).1 hp,(h.wins u hu).2⟩⟩
theorem Tp.text(h:Tp K R0 R E0 E r0 r j off len i x0 x p)(hq:(Pl.qab K.S j)[i]?=some pt)(hi:i<off+len)(hk:pt.kind=1)(hl:pt.text.length≤2000) :
  Tp K R0 R E0 E r0 (r+pt.text.length) j off len (i+1) x0 (Pl.qaw x pt.text) (Pl.qc7 p pt.text):=by
 have:=h.le;have:=h.lo;exact⟨qxo h.inv (by omega),Pl.qs1 _ _ h.cm,Pl.qo7 _ _ _ h.cm.fit.fit.ok h.par,Pl.spFromOk _ _ _ h.sp,h.pre,h.all,h.few,h.lenE,by have:=h.up;omega,by omega,by omega,by omega,fun h6=>⟨fun R2 hR hc=>(h.cl h6).1 R2 hR (Pl.q9j hq hk hc),(h.cl h6).2⟩⟩
theorem Tp.hole(h:Tp K R0 R E0 E r0 r j off len i x0 x p)(hq:(Pl.qab K.S j)[i]?=some pt)(hi:i<off+len)(hk:pt.kind=2) :
  Tp K R0 R E0 E r0 r j off len (i+1) x0 x.behindHole p.behindHole:=by
 have:=h.le;have:=h.lo;refine⟨h.inv,Pl.qxy h.cm,Pl.qfj _ _ h.cm.fit.fit.ok h.par,?_,h.pre,h.all,h.few,h.lenE,h.up,by omega,by omega,by omega,fun h6=>⟨fun R2 hR hc=>(h.cl h6).1 R2 hR (Pl.q9m hq hk hc),(h.cl h6).2⟩⟩;unfold Pl.Sp.behindHole;split
 ·exact⟨h.sp.mode,h.sp.tag,h.sp.attr,h.sp.inside,h.sp.run⟩
 ·exact h.sp
theorem Tp.skip(h:Tp K R0 R E0 E r0 r j off len i x0 x p)(hi:i<off+len)(hq:∀R2,K.cl R2 j (i+1) x→K.cl R2 j i x) :
  Tp K R0 R E0 E r0 r j off len (i+1) x0 x p:=by
 have:=h.le;have:=h.lo;exact⟨h.inv,h.cm,h.par,h.sp,h.pre,h.all,h.few,h.lenE,h.up,by omega,by omega,by omega,fun h6=>⟨fun R2 hR hc=>(h.cl h6).1 R2 hR (hq R2 hc),(h.cl h6).2⟩⟩
theorem Tp.sec(h:Tp K R0 R E0 E r0 r j off len i x0 x p)(hq:(Pl.qab K.S j)[i]?=some pt)(hk:pt.kind=3∨pt.kind=4)(hm:i<pt.mate)(hl:pt.mate<off+len)(ht:TrP K R R' E E' r r' j (i+1) (pt.mate - (i+1)) x) :
  Tp K R0 R' E0 E' r0 r' j off len (pt.mate+1) x0 x p:=by
 have:=h.le;have:=h.lo;have:=ht.le;have:=h.lenE;have:=ht.lenE;have:=h.pre.length_le;have:=ht.pre.length_le;refine⟨ht.inv,h.cm,h.par,h.sp.le ht.up,h.pre.trans ht.pre,ht.all,ht.few,by omega,Nat.le_trans h.up ht.up,by omega,by omega,by omega,fun h6=>⟨fun R2 hR hc=>?_,fun v hv hn=>?_⟩⟩
 ·have ha:∀u∈R,u∈R':=fun u hu=>ht.pre.subset hu
  exact(h.cl (by omega)).1 R2 (fun u hu=>hR u (ha u hu)) (Pl.zad hq hk ((ht.cl h6).1.mono hR) hc)
 ·by_cases q:v∈R
  ·exact((h.cl (by omega)).2 v q hn).mono fun u hu=>ht.pre.subset hu
  ·exact(ht.cl h6).2 v hv q
theorem Tp.visit{m:Nat}(h:Tp K R0 R E0 E r0 r j off len i x0 x p)(ht:TrP K (R++[(m,x)]) R' E E' r r' (m+1) 0 (Pl.qab K.S (m+1)).length x)(hl:(Pl.qab K.S (m+1)).length≤2000) :
  Tp K R0 R' E0 E' r0 r' j off len i x0 x p∧(m,x)∈R':=by
 have:=h.le;have:=h.lo;have:=ht.le;have:=h.lenE;have:=ht.lenE;have:=h.pre.length_le;have hp:=ht.pre.length_le;have Ha:=ht.le;rw[List.length_append]at hp Ha;simp only[List.length_cons,List.length_nil]at hp Ha;have ha:∀u∈R,u∈R':=fun u hu=>ht.pre.subset (List.mem_append_left _ hu);have hm:(m,x)∈R':=ht.pre.subset (List.mem_append_right _ List.mem_cons_self);refine⟨⟨ht.inv,h.cm,h.par,h.sp.le ht.up,h.pre.trans ((List.prefix_append _ _).trans ht.pre),ht.all,ht.few,by omega,Nat.le_trans h.up ht.up,by omega,h.lo,h.hi,fun h6=>⟨fun R2 hR hc=>(h.cl (by omega)).1 R2 (fun u hu=>hR u (ha u hu)) hc,fun v hv hn=>?_⟩⟩,hm⟩;by_cases q:v∈R
 ·exact((h.cl (by omega)).2 v q hn).mono ha
 ·by_cases q2:v=(m,x)
  ·rw[q2];exact(ht.cl h6).1
  ·exact(ht.cl h6).2 v hv (fun z=>(List.mem_append.1 z).elim q fun z=>q2 (List.mem_singleton.1 z))
theorem Tp.visit0{m:Nat}(h:Tp K R0 R E0 E r0 r j off len i x0 x p)(h6:R.length≤256)(h7:¬R.length+1≤256)(hm:m<K.N.length) :
  Tp K R0 (R++[(m,x)]) E0 E r0 r j off len i x0 x p∧(m,x)∈R++[(m,x)]:=by
 have:=h.le;have:=h.pre.length_le;refine⟨⟨qu1 h.inv (List.prefix_append _ _),h.cm,h.par,h.sp,h.pre.trans (List.prefix_append _ _),fun u hu=>?_,by rw[List.length_append];simp;omega,h.lenE,h.up,by rw[List.length_append];simp;omega,h.lo,h.hi,fun q=>?_⟩,List.mem_append_right _ List.mem_cons_self⟩
 ·rcases List.mem_append.1 hu with q | q
  ·exact h.all u q
  ·rw[List.mem_singleton.1 q];exact⟨h.cm,hm⟩
 ·rw[List.length_append]at q
  simp at q;omega
theorem q9f{B:Nat→List Pl.It}{m:Nat}{y y':Pl.Sx}(h:Pl.Done B m x y)(h':Pl.Done B m x y'):y=y':=Pl.qk3 (Pl.qte h) (Pl.qte h')
theorem Tp.call{m:Nat}{y:Pl.Sx}(h:Tp K R0 R E0 E r0 r j off len i x0 x p)(hq:(Pl.qab K.S j)[i]?=some pt)(hi:i<off+len)(hk:pt.kind=6)(hm:Pl.qca K.nm pt.text=some m)(ha:(m,x)∈R)(hd:Pl.Done K.bd m x y)(hp:Pl.ParX y p')(hc:Pl.Cm y)(hv:Pl.EInv K.bd R r' E' [])(hs:Pl.SpOk r' p')(hl:E.length≤E'.length)(hu:r≤r')(hr:r'≤r+4000000*(E'.length - E.length)+0) :
  Tp K R0 R E0 E' r0 r' j off len (i+1) x0 y p':=by
 have:=h.le;have:=h.lo;have:=h.lenE;exact⟨hv,hc,hp,hs,h.pre,h.all,h.few,by omega,Nat.le_trans h.up hu,by omega,by omega,by omega,fun h6=>⟨fun R2 hR hc=>(h.cl h6).1 R2 hR (Pl.q4p hq hk hm (hR _ ha) fun y' Ha=>q9f hd Ha▸hc),(h.cl h6).2⟩⟩
theorem Tp.nodone{m:Nat}(h:Tp K R0 R E0 E r0 r j off len i x0 x p)(hq:(Pl.qab K.S j)[i]?=some pt)(hi:i<off+len)(hk:pt.kind=6)(hm:Pl.qca K.nm pt.text=some m)(ha:(m,x)∈R)(hd:∀y,¬Pl.Done K.bd m x y)(hv:Pl.EInv K.bd R r' E' [])(hl:E.length≤E'.length)(hu:r≤r')(hr:r'≤r+4000000*(E'.length - E.length)+0):TrP K R0 R E0 E' r0 r' j off len x0:=by
 have:=h.le;have:=h.lo;have:=h.lenE;exact⟨hv,h.pre,h.all,h.few,by omega,Nat.le_trans h.up hu,by omega,fun h6=>⟨(h.cl h6).1 R (fun _ q=>q) (Pl.q4p hq hk hm ha fun y hy=>absurd hy (hd y)),(h.cl h6).2⟩⟩
theorem Tp.done(h:Tp K R0 R E0 E r0 r j off len (off+len) x0 x p)(hz:∀q,(Pl.qab K.S j)[off+len]?=some q→q.kind=5):TrP K R0 R E0 E r0 r j off len x0:=by
 refine⟨h.inv,h.pre,h.all,h.few,h.lenE,h.up,by have:=h.le;omega,fun h6=>⟨(h.cl h6).1 R (fun _ q=>q) ?_,(h.cl h6).2⟩⟩;cases hq:(Pl.qab K.S j)[off+len]? with
 | none=>exact Pl.q9k (List.getElem?_eq_none_iff.1 hq)
 | some q=>exact Pl.q7n hq (hz q hq)
theorem Tp.wide(h:Tp K R0 R E0 E r0 r j off len i x0 x p)(h7:¬R.length≤256):TrP K R0 R E0 E r0 r j off len x0:=
 ⟨h.inv,h.pre,h.all,h.few,h.lenE,h.up,by have:=h.le;have:=h.hi;have:=h.lo;omega,fun h6=>absurd h6 h7⟩
end
namespace Pl
theorem qrl{o:Nat}{L:List Pt}(h:Wf o L):L=[]∨(∃p l,L=p::l∧(p.kind=1∨p.kind=2∨p.kind=6)∧Wf (o+1) l)∨∃p q b l,L=p::(b++q::l)∧(p.kind=3∨p.kind=4)∧p.mate=o+1+b.length∧Wf (o+1) b∧Wf (o+b.length+2) l:=by
 cases h with
 | nil=>exact .inl rfl
 | leaf _ p l h1 h2=>exact .inr (.inl ⟨p,l,rfl,h1,h2⟩)
 | sec _ p q b l h1 _ h3 _ h5 h6=>exact .inr (.inr ⟨p,q,b,l,by simp,h1,h3,h5,h6⟩)
def sgm(P:List Pt)(i t:Nat):List Pt:=(P.take t).drop i
theorem q2r(P:List Pt):sgm P 0 P.length=P:=by unfold sgm;rw[List.take_length,List.drop_zero]
section
variable {P:List Pt}{i t:Nat}{p:Pt}
theorem qr2(hp:P[i]?=some p)(hi:i<t):sgm P i t=p::sgm P (i+1) t:=by
 have h:(P.take t)[i]?=some p:=by rw[List.getElem?_take,if_pos hi];exact hp
 obtain⟨h1,h2⟩:=List.getElem?_eq_some_iff.1 h;unfold sgm;rw[List.drop_eq_getElem_cons h1,h2]
theorem q76(h:Wf i (sgm P i t))(hp:P[i]?=some p)(hi:i<t):p.kind≠5:=by
 rw[qr2 hp hi]at h;rcases qrl h with q | ⟨p',l',q,q1,_⟩ | ⟨p',q',b,l',q,q1,_⟩
 ·cases q
 ·injection q with e1 e2;rw[e1];omega
 ·injection q with e1 e2;rw[e1];omega
theorem qnl(h:Wf i (sgm P i t))(hp:P[i]?=some p)(hi:i<t)(hk:p.kind=1∨p.kind=2∨p.kind=6):Wf (i+1) (sgm P (i+1) t):=by
 rw[qr2 hp hi]at h;rcases qrl h with q | ⟨p',l',q,q1,q2⟩ | ⟨p',q',b,l',q,q1,_⟩
 ·cases q
 ·injection q with e1 e2;rw[e2];exact q2
 ·injection q with e1 e2;rw[←e1]at q1;omega
theorem q2q(h:Wf i (sgm P i t))(hp:P[i]?=some p)(hi:i<t)(hk:p.kind=3∨p.kind=4):i<p.mate∧p.mate<t∧Wf (i+1) (sgm P (i+1) p.mate)∧Wf (p.mate+1) (sgm P (p.mate+1) t):=by
 rw[qr2 hp hi]at h;rcases qrl h with q | ⟨p',l',q,q1,q2⟩ | ⟨p',q',b,l',q,_,q2,q3,q4⟩
 ·cases q
 ·injection q with e1 e2;rw[←e1]at q1;omega
 ·injection q with e1 e2
  subst e1;have hl:=congrArg List.length e2;unfold sgm at hl;rw[List.length_drop,List.length_take,List.length_append,List.length_cons]at hl;have e:∀c,sgm P (i+1+c) t=(b++q'::l').drop c:=fun c=>by rw[←e2];unfold sgm;rw[List.drop_drop]
  refine⟨by omega,by omega,?_,?_⟩
  ·have:sgm P (i+1) p.mate=b:=by
    unfold sgm at e2 ⊢;have h1:P.take p.mate=(P.take t).take p.mate:=by rw[List.take_take,Nat.min_eq_left (by omega)]
    rw[h1,List.drop_take,e2,show p.mate - (i+1)=b.length by omega,List.take_left'];rfl
   rw[this];exact q3
  ·rw[show p.mate+1=i+1+(b.length+1) by omega,e,show b++q'::l'=(b++[q'])++l' by simp,List.drop_left' (by simp),show i+1+(b.length+1)=i+b.length+2 by omega]
   exact q4
end
def Th(S:List Src)(j i stop:Nat)(x:Sx)(R R':List Vt)(f:Ft)(e:Option Sx):Prop:=∃n,ThD S n j i stop x R R' f e
section
variable {S:List Src}{j i stop m:Nat}{x y:Sx}{R R1 R':List Vt}{f f1:Ft}{e e1:Option Sx}{p:Pt}
theorem Th.fin(h:stop≤i):Th S j i stop x R R Ft.none (some x):=⟨1,.inl ⟨h,rfl,rfl,rfl⟩⟩
theorem Th.scheme{t:Nat}(hi:i<stop)(hp:(qab S j)[i]?=some p)(hk:p.kind=1)(h:qbj x p.text=some t):Th S j i stop x R R ⟨3,14,qep S j,p.pos+t⟩ Option.none:=⟨1,.inr ⟨p,hi,hp,.inl ⟨hk,t,h,rfl,rfl,rfl⟩⟩⟩
theorem Th.text(hi:i<stop)(hp:(qab S j)[i]?=some p)(hk:p.kind=1)(h:qbj x p.text=Option.none)(ht:Th S j (i+1) stop (qaw x p.text) R R' f e):Th S j i stop x R R' f e:=ht.elim fun n q=>⟨n+1,.inr ⟨p,hi,hp,.inr (.inl ⟨hk,h,q⟩)⟩⟩
theorem Th.bad(hi:i<stop)(hp:(qab S j)[i]?=some p)(hk:p.kind=2)(h:x.hole.2≠0):Th S j i stop x R R ⟨3,x.hole.2,qep S j,p.pos⟩ Option.none:=⟨1,.inr ⟨p,hi,hp,.inr (.inr (.inl ⟨hk,h,rfl,rfl,rfl⟩))⟩⟩
theorem Th.hole(hi:i<stop)(hp:(qab S j)[i]?=some p)(hk:p.kind=2)(h:x.hole.2=0)(ht:Th S j (i+1) stop x.behindHole R R' f e):Th S j i stop x R R' f e:=ht.elim fun n q=>⟨n+1,.inr ⟨p,hi,hp,.inr (.inr (.inr (.inl ⟨hk,h,q⟩)))⟩⟩
theorem Th.absent(hi:i<stop)(hp:(qab S j)[i]?=some p)(hk:p.kind=6)(h:qca (nmOf S) p.text=Option.none)(ht:Th S j (i+1) stop x R R' f e):Th S j i stop x R R' f e:=ht.elim fun n q=>⟨n+1,.inr ⟨p,hi,hp,.inr (.inr (.inr (.inr (.inr (.inl ⟨hk,h,q⟩)))))⟩⟩
theorem Th.secBad(hi:i<stop)(hp:(qab S j)[i]?=some p)(hk:p.kind=3∨p.kind=4)(h1:Th S j (i+1) p.mate x R R1 f1 e1)(h:f1.code≠0):Th S j i stop x R R1 f1 Option.none:=
 h1.elim fun n q=>⟨n+1,.inr ⟨p,hi,hp,.inr (.inr (.inr (.inr (.inl ⟨hk,R1,f1,e1,q,.inl ⟨h,rfl,rfl,rfl⟩⟩))))⟩⟩
theorem Th.branch(hi:i<stop)(hp:(qab S j)[i]?=some p)(hk:p.kind=3∨p.kind=4)(h1:Th S j (i+1) p.mate x R R1 f1 (some y))(h:f1.code=0)(hy:y≠x):Th S j i stop x R R1 ⟨3,13,qep S j,p.pos⟩ Option.none:=
 h1.elim fun n q=>⟨n+1,.inr ⟨p,hi,hp,.inr (.inr (.inr (.inr (.inl ⟨hk,R1,f1,_,q,.inr (.inl ⟨h,⟨y,rfl,hy⟩,rfl,rfl,rfl⟩)⟩))))⟩⟩
theorem Th.sec(hi:i<stop)(hp:(qab S j)[i]?=some p)(hk:p.kind=3∨p.kind=4)(hm:p.mate<stop)(h1:Th S j (i+1) p.mate x R R1 f1 e1)(h:f1.code=0)(he:e1=Option.none∨e1=some x)(ht:Th S j (p.mate+1) stop x R1 R' f e):Th S j i stop x R R' f e:=by
 obtain⟨n,q⟩:=h1;obtain⟨n',q'⟩:=ht;exact⟨max n n'+1,.inr ⟨p,hi,hp,.inr (.inr (.inr (.inr (.inl ⟨hk,R1,f1,e1,qng q (Nat.le_max_left _ _),.inr (.inr ⟨h,he,hm,qng q' (Nat.le_max_right _ _)⟩)⟩))))⟩⟩
def VsD(S:List Src)(m:Nat)(x:Sx)(R R1:List Vt)(f1:Ft):Prop:=((m,x)∈R∧R1=R∧f1=Ft.none)∨((m,x)∉R∧∃e1,Th S (m+1) 0 (qab S (m+1)).length x (R++[(m,x)]) R1 f1 e1)
theorem VsD.at_(h:VsD S m x R R1 f1):∃n,∀n',n≤n'→(((m,x)∈R∧R1=R∧f1=Ft.none)∨((m,x)∉R∧∃e1,ThD S n' (m+1) 0 (qab S (m+1)).length x (R++[(m,x)]) R1 f1 e1)):=by
 rcases h with h | ⟨h,e1,n,q⟩
 ·exact⟨0,fun _ _=>.inl h⟩
 ·exact⟨n,fun n' hn=>.inr ⟨h,e1,qng q hn⟩⟩
theorem Th.callBad(hi:i<stop)(hp:(qab S j)[i]?=some p)(hk:p.kind=6)(hm:qca (nmOf S) p.text=some m)(hv:VsD S m x R R1 f1)(h:f1.code≠0):Th S j i stop x R R1 f1 Option.none:=
 hv.at_.elim fun n q=>⟨n+1,.inr ⟨p,hi,hp,.inr (.inr (.inr (.inr (.inr (.inr ⟨hk,m,hm,R1,f1,q n (Nat.le_refl _),.inl ⟨h,rfl,rfl,rfl⟩⟩)))))⟩⟩
theorem Th.call(hi:i<stop)(hp:(qab S j)[i]?=some p)(hk:p.kind=6)(hm:qca (nmOf S) p.text=some m)(hv:VsD S m x R R1 f1)(h:f1.code=0)(hy:Done (bdOf S) m x y)(ht:Th S j (i+1) stop y R1 R' f e):Th S j i stop x R R' f e:=by
 obtain⟨n,q⟩:=hv.at_;obtain⟨n',q'⟩:=ht;exact⟨max n n'+1,.inr ⟨p,hi,hp,.inr (.inr (.inr (.inr (.inr (.inr ⟨hk,m,hm,R1,f1,q _ (Nat.le_max_left _ _),.inr (.inl ⟨h,y,hy,qng q' (Nat.le_max_right _ _)⟩)⟩)))))⟩⟩
theorem Th.never(hi:i<stop)(hp:(qab S j)[i]?=some p)(hk:p.kind=6)(hm:qca (nmOf S) p.text=some m)(hv:VsD S m x R R1 f1)(h:f1.code=0)(hy:∀y,¬Done (bdOf S) m x y):Th S j i stop x R R1 Ft.none Option.none:=
 hv.at_.elim fun n q=>⟨n+1,.inr ⟨p,hi,hp,.inr (.inr (.inr (.inr (.inr (.inr ⟨hk,m,hm,R1,f1,q n (Nat.le_refl _),.inr (.inr ⟨h,hy,rfl,rfl,rfl⟩)⟩)))))⟩⟩
end
end Pl
end Go.Proofs.YtfkhljmiehdgmaaGreatDoor
