/-
  Steps of the proof.
-/
import Derived.Laws.AppendOwnNone
import Derived.Test.YtfkhljmiehdgmaaGreatDoorCmBQ
set_option maxRecDepth 100000
set_option maxHeartbeats 40000000
namespace Go.Proofs.YtfkhljmiehdgmaaGreatDoor
open Go.RowKit
variable{K:Sk}{w0 wr w w1 w':World}{W:List Pl.Vt}{vW ve' vp ve:Value}{p':Pl.Sp}{E' E:List Pl.Et}{B g:Nat}{S:List Pl.Src}{N:List ByteArray}{pv:Nat->Value}{RL:Nat->List Rm}
theorem Enm.setFar(h:Enm K w0 wr W vW p' ve' E')(hB:K.B<=w0.heap.size){g:Nat}{cs:Array Value}{fz:Nat×Nat}(hg:wr.heap[g]?=some (.cells cs 94 fz))(hb:w0.heap.size+1<g)(v0 v1 v2 v3 v4 v5:Value):Enm K w0 (set6 wr g v0 v1 v2 v3 v4 v5) W vW p' ve' E':=by
 have Ha:∀(k:Nat) (cs:Array Value) (t:TypeId) (fz:Nat×Nat),wr.heap[k]?=some (.cells cs t fz)->t≠94->(set6 wr g v0 v1 v2 v3 v4 v5).heap[k]?=wr.heap[k]?:=fun k cs t fz hk ht=>qci (qae hk hg ht) _ _ _ _ _ _;have ha:∀(e:TypeId) (sz n:Nat) (v:Value) (xs:List Value),wr.ownsRow K.B e sz v n xs->e≠94->(set6 wr g v0 v1 v2 v3 v4 v5).ownsRow K.B e sz v n xs:=fun e sz n v xs hv he=>qac hv fun k hk=>by
  obtain⟨cur,hc⟩:=qad hv k hk;exact Ha _ _ _ _ hc he
 exact⟨(qci (by omega) _ _ _ _ _ _).trans h.spot,(qci (by omega) _ _ _ _ _ _).trans h.res,⟨⟨(Ha _ _ _ _ h.at_.tp.blk (by decide)).trans h.at_.tp.blk,h.at_.tp.le,ha _ _ _ _ _ h.at_.tp.parts (by decide),fun i s hs=>⟨ha _ _ _ _ _ (h.at_.tp.row i s hs).1 (by decide),(h.at_.tp.row i s hs).2⟩⟩,ha _ _ _ _ _ h.at_.ends (by decide)⟩,ha _ _ _ _ _ h.wi (by decide),qbx h.ck.below (by omega) _ _ _ _ _ _,fun k cs t fz hk h1 h2=>(qci (by have:=(Array.getElem?_eq_some_iff.1 hk).1;omega) _ _ _ _ _ _).trans (h.ck.keep k cs t fz hk h1 h2)⟩
theorem EnAt.apart(h:EnAt w B g S N pv RL vp ve E)(hb:Below w.heap.size w w1)(Ha:w1.grownBy w' ve.ownBlock){k:Nat}{cs:Array Value}{t:TypeId}{fz:Nat×Nat}(hk:w.heap[k]?=some (.cells cs t fz))(ht:t≠201):w'.heap[k]?=w.heap[k]?:=by
 have ha:=(Array.getElem?_eq_some_iff.1 hk).1;refine(Ha.block k (Nat.lt_of_lt_of_le ha hb.size) (fun e=>?_)).trans (hb.block k ha);obtain⟨cur,hc⟩:=qad h.ends k e.symm;exact qae hk hc ht rfl
theorem EnAt.ahead(h:EnAt w B g S N pv RL vp ve E)(hb:Below w.heap.size w w1)(ha:w1.grownBy w' ve.ownBlock):w'.cell? ⟨g,2,none⟩=some ve/\w'.frozen? ⟨g,2,none⟩=false:=by
 have hg:=(h.apart hb ha h.tp.blk (by decide)).trans h.tp.blk;exact⟨qaa hg 2 _ rfl,frozen_of_row _ _ 2 _ _ hg⟩
theorem Enm.more(h:Enm K w0 wr W vW p' ve E')(hB:K.B<=w0.heap.size)(hb:Below wr.heap.size wr w1)(e:Pl.Et)(Hc:w'.ownsRow K.B 201 17 ve' (E'.length+1) (qho E'++qew e))(he:w1.grownBy w' ve.ownBlock)(He:ve'.ownBlock=ve.ownBlock\/ve'.ownBlock=some w1.heap.size) :
  Enm K w0 (w'.setCell ⟨K.g,2,none⟩ ve') W vW p' ve' (E'++[e])/\∀(k:Nat) (cs:Array Value) (fz:Nat×Nat),wr.heap[k]?=some (.cells cs 94 fz)->(w'.setCell ⟨K.g,2,none⟩ ve').heap[k]?=wr.heap[k]?:=by
 have hg:=(h.at_.apart hb he h.at_.tp.blk (by decide)).trans h.at_.tp.blk;have Hf:=(lta h.at_.tp.blk);have Hg:=hb.size;have hi:=h.lt;have hf:ve'.ownBlock≠some K.g:=by
  intro q;rcases He with z|z
  ·rw[q]at z
   obtain⟨cur,hc⟩:=qad h.at_.ends K.g z.symm;exact qae h.at_.tp.blk hc (by decide) rfl
  ·rw[q]at z
   injection z with z;omega
 have Hb:∀k,k≠K.g->(w'.setCell ⟨K.g,2,none⟩ ve').heap[k]?=w'.heap[k]?:=fun k hk=>Below.heap_setCell _ _ _ _ hk;have ha:∀(k:Nat) (cs:Array Value) (t:TypeId) (fz:Nat×Nat),wr.heap[k]?=some (.cells cs t fz)->t≠201->t≠101->(w'.setCell ⟨K.g,2,none⟩ ve').heap[k]?=wr.heap[k]?:=fun k cs t fz hk h1 h2=>(Hb k (qae hk h.at_.tp.blk h2)).trans (h.at_.apart hb he hk h1);have Ha:∀(t:TypeId) (sz n:Nat) (v:Value) (xs:List Value),wr.ownsRow K.B t sz v n xs->t≠201->t≠101->(w'.setCell ⟨K.g,2,none⟩ ve').ownsRow K.B t sz v n xs:=fun t sz n v xs hv h1 h2=>qac hv fun k hk=>by
  obtain⟨cur,hc⟩:=qad hv k hk;exact ha _ _ _ _ hc h1 h2
 refine⟨⟨(ha _ _ _ _ h.spot (by decide) (by decide)).trans h.spot,(ha _ _ _ _ h.res (by decide) (by decide)).trans h.res,⟨⟨heap_setCell_same w' K.g 2 _ _ _ hg,h.at_.tp.le,Ha _ _ _ _ _ h.at_.tp.parts (by decide) (by decide),fun i s hs=>⟨Ha _ _ _ _ _ (h.at_.tp.row i s hs).1 (by decide) (by decide),(h.at_.tp.row i s hs).2⟩⟩,?_⟩,Ha _ _ _ _ _ h.wi (by decide) (by decide),?_,fun k cs t fz hk h1 h2=>?_⟩,fun k cs fz hk=>ha _ _ _ _ hk (by decide) (by decide)⟩
 ·rw[List.length_append,qu8]
  exact qac Hc fun k hk=>Hb k (fun e=>hf (by rw[<-e];exact hk))
 ·exact((h.ck.below.trans (hb.mono (by omega))).grown he (by omega) (fun q hq=>(World.ownsRow.lt h.at_.ends q hq).1)).setCell h.at_.tp.le _
 ·have:=h.ck.keep k cs t fz hk h1 h2
  exact(ha k cs t fz (this.trans hk) h1 h2).trans this
theorem q7a{B:Nat->List Pl.It}{R:List Pl.Vt}{r:Nat}{n:Nat}{x:Pl.Sx}{e:Pl.Et}(h:Pl.EInv B R r E (W++[(n,x)]))(he:Pl.EtOk B R r e)(hn:(e.n,e.x)=(n,x)):Pl.EInv B R r (E++[e]) W:=by
 refine⟨fun u hu=>(List.mem_append.1 hu).elim (h.each u) fun q=>List.mem_singleton.1 q▸he,?_,fun u hu=>h.wins u (List.mem_append_left _ hu)⟩;rw[List.map_append,List.append_assoc,show [e].map (fun e=>(e.n,e.x))=[(n,x)]from by rw[List.map_singleton,hn]];exact(List.Perm.append_left _ List.perm_append_comm).nodup_iff.1 h.apart
theorem q6u:(Tryz.prog.info? 201).map (fun i=>(i.zero,i.size,i.bytes))=some (some (.agg #[.int .i64 0,.int .i64 0,.int .i64 0,.int .i64 0,.int .i64 0,.int .i64 0,.int .i64 0,.int .i64 0,.string ⟨#[]⟩,.bool false,.int .i64 0,.string ⟨#[]⟩,.string ⟨#[]⟩,.string ⟨#[]⟩,.string ⟨#[]⟩,.int .i64 0,.bool false]),17,176):=by kernel_rfl
variable{m:Nat}{y:Pl.Sx}
structure Cw(B:Nat)(w w':World):Prop where
 below:Below B w w'
 keep:∀(k:Nat) (cs:Array Value) (t:TypeId) (fz:Nat×Nat),w.heap[k]?=some (.cells cs t fz)->(t≠201/\t≠101)/\t≠92/\t≠143->w'.heap[k]?=w.heap[k]?
structure WkAt(K:Sk)(w:World)(gw:Nat)(ve vS:Value)(E:List Pl.Et)(R:List Pl.Vt)(F:Pl.Ft):Prop where
 at_:K.at_ w ve E
 blk:w.heap[gw]?=some (.cells #[.pointer (some ⟨K.g,0,none⟩),vS,.int .i64 F.code,.int .i64 F.kind,bs F.place,.int .i64 F.pos] 92 (0,0))
 le:K.B<=gw
 seen:w.ownsRow K.B 143 10 vS R.length (qch R)
structure Tm(K:Sk)(w0 wr:World)(gw:Nat)(ve vS:Value)(E:List Pl.Et)(R:List Pl.Vt)(F:Pl.Ft)(p':Pl.Sp):Prop where
 spot:wr.heap[w0.heap.size]?=some (.cells (qag p') 94 (0,0))
 res:wr.heap[w0.heap.size+1]?=some (.cells #[.int .i64 0,.string ⟨#[]⟩,.string ⟨#[]⟩,.string ⟨#[]⟩,.string ⟨#[]⟩,.int .i64 0] 94 (0,0))
 wk:WkAt K wr gw ve vS E R F
 ck:Cw K.B w0 wr
def SlOf(pj:Value)(L off len:Nat)(v:Value):Prop:=∃ao cap,v=.slice ao len cap/\len<=cap/\(0<len->∃g cap0,pj=.slice (some ⟨g,0,none⟩) L cap0/\ao=some ⟨g,off*6,none⟩)
abbrev Sk.cl(K:Sk)(R:List Pl.Vt)(j i:Nat)(x:Pl.Sx):Prop:=Pl.Cl K.bd K.nm (Pl.qab K.S j) R i x
structure TrP(K:Sk)(R0 R:List Pl.Vt)(E0 E:List Pl.Et)(r0 r j off len:Nat)(x0:Pl.Sx):Prop where
 inv:Pl.EInv K.bd R r E []
 pre:R0 <+: R
 all:∀u∈R,Pl.Cm u.2/\u.1<K.N.length
 few:R.length<=257
 lenE:E0.length<=E.length
 up:r0<=r
 le:r<=r0+4000000*(E.length - E0.length)+4000000*(R.length - R0.length)+2000*len
 cl:R.length<=256->K.cl R j off x0/\∀v∈R,v∉R0->K.cl R (v.1+1) 0 v.2
def TrO(K:Sk)(w:World)(gw:Nat)(E:List Pl.Et)(R:List Pl.Vt)(r j off len:Nat)(x:Pl.Sx)(F:Pl.Ft)(e:Ending)(w':World):Prop:=
 ∃p' ok ve' vS' E' R' r',e=.returned (.tuple #[qau p',.bool ok])/\WkAt K w' gw ve' vS' E' R' F/\Cw K.B w w'/\TrP K R R' E E' r r' j off len x
def qzz(K:Sk)(k:Nat):Prop:=∀(w:World) (gw:Nat) (ve vS v:Value) (E:List Pl.Et) (R:List Pl.Vt) (r j off len:Nat) (x:Pl.Sx) (p:Pl.Sp) (F:Pl.Ft),
 WkAt K w gw ve vS E R F->SlOf (K.pv j) (Pl.qab K.S j).length off len v->j<=K.N.length->off+len<=(Pl.qab K.S j).length->((∀q,(Pl.qab K.S j)[off+len]?=some q->q.kind=5)/\∀(i:Nat) (q:Pl.Pt),off<=i->i<off+len->(Pl.qab K.S j)[i]?=some q->(q.kind=3\/q.kind=4)->q.mate<off+len) ->
 Pl.EInv K.bd R r E []->Pl.Cm x->Pl.ParX x p->Pl.SpOk r p->(∀u∈R,Pl.Cm u.2/\u.1<K.N.length)->R.length<=256->K.B<=w.heap.size ->
 (257 - R.length)*3000+len<=k->r+4000000*(429926418001 - E.length)+4000000*(257 - R.length)+2000*len<=1900000000000000000 ->
 Calls Tryz.prog 33 #[.pointer (some ⟨gw,0,none⟩),v,qau p] w fun e w'=>TrO K w gw E R r j off len x F e w'
structure Tp(K:Sk)(R0 R:List Pl.Vt)(E0 E:List Pl.Et)(r0 r j off len i:Nat)(x0 x:Pl.Sx)(p:Pl.Sp):Prop where
 inv:Pl.EInv K.bd R r E []
 cm:Pl.Cm x
 par:Pl.ParX x p
 sp:Pl.SpOk r p
 pre:R0 <+: R
 all:∀u∈R,Pl.Cm u.2/\u.1<K.N.length
 few:R.length<=257
 lenE:E0.length<=E.length
 up:r0<=r
 le:r<=r0+4000000*(E.length - E0.length)+4000000*(R.length - R0.length)+2000*(i - off)
 lo:off<=i
 hi:i<=off+len
 cl:R.length<=256->(∀R2,(∀u∈R,u∈R2)->K.cl R2 j i x->K.cl R2 j off x0)/\∀v∈R,v∉R0->K.cl R (v.1+1) 0 v.2
section
variable {K:Sk}{w0 wr w1 w w':World}{gw:Nat}{ve vS ve' vS':Value}{E E' E0:List Pl.Et}{R R' R0:List Pl.Vt}{F:Pl.Ft}{p p':Pl.Sp}{r r' r0 j off len i:Nat}{x x' x0:Pl.Sx}{B:Nat}{pt:Pl.Pt}
theorem Cw.refl(B:Nat)(w:World):Cw B w w:=⟨Below.refl _ _,fun _ _ _ _ _ _=>rfl⟩
theorem Cw.trans{a b c:World}(h:Cw B a b)(k:Cw B b c):Cw B a c:=
 ⟨h.below.trans k.below,fun i cs t fz hi h1=>(k.keep i cs t fz ((h.keep i cs t fz hi h1).trans hi) h1).trans (h.keep i cs t fz hi h1)⟩
theorem Cw.of_below(h:Below w.heap.size w w')(hB:B<=w.heap.size):Cw B w w':=⟨h.mono hB,fun k _ _ _ hk _=>h.block k (Array.getElem?_eq_some_iff.1 hk).1⟩
theorem Cw.of_ck(h:Ck B w w'):Cw B w w':=⟨h.below,fun k cs t fz hk h1=>h.keep k cs t fz hk h1.1.1 h1.1.2⟩
theorem WkAt.kept(h:WkAt K w gw ve vS E R F)(hb:Below w.heap.size w w'):WkAt K w' gw ve vS E R F:=
 ⟨h.at_.kept hb,(hb.block _ (lta h.blk)).trans h.blk,h.le,qac h.seen fun q hq=>hb.block q (h.seen.lt q hq).2⟩
theorem WkAt.ended(h:WkAt K w gw ve vS E R F)(ha:Ck K.B w w')(Ha:K.at_ w' ve' E'):WkAt K w' gw ve' vS E' R F:=by
 refine⟨Ha,(ha.keep _ _ _ _ h.blk (by decide) (by decide)).trans h.blk,h.le,qac h.seen fun q hq=>?_⟩;obtain⟨cur,hc⟩:=qad h.seen q hq;exact ha.keep _ _ _ _ hc (by decide) (by decide)
theorem WkAt.set(h:WkAt K w gw ve vS E R F){g:Nat}{cs:Array Value}{fz:Nat×Nat}(hg:w.heap[g]?=some (.cells cs 94 fz))(v0 v1 v2 v3 v4 v5:Value):WkAt K (set6 w g v0 v1 v2 v3 v4 v5) gw ve vS E R F:=by
 have Ha:∀(k:Nat) (cs:Array Value) (t:TypeId) (fz:Nat×Nat),w.heap[k]?=some (.cells cs t fz)->t≠94->(set6 w g v0 v1 v2 v3 v4 v5).heap[k]?=w.heap[k]?:=fun k cs t fz hk ht=>qci (qae hk hg ht) _ _ _ _ _ _;have ha:∀(e:TypeId) (sz n:Nat) (v:Value) (xs:List Value),w.ownsRow K.B e sz v n xs->e≠94->(set6 w g v0 v1 v2 v3 v4 v5).ownsRow K.B e sz v n xs:=fun e sz n v xs hv he=>qac hv fun k hk=>by
  obtain⟨cur,hc⟩:=qad hv k hk;exact Ha _ _ _ _ hc he
 exact⟨⟨⟨(Ha _ _ _ _ h.at_.tp.blk (by decide)).trans h.at_.tp.blk,h.at_.tp.le,ha _ _ _ _ _ h.at_.tp.parts (by decide),fun i s hs=>⟨ha _ _ _ _ _ (h.at_.tp.row i s hs).1 (by decide),(h.at_.tp.row i s hs).2⟩⟩,ha _ _ _ _ _ h.at_.ends (by decide)⟩,(Ha _ _ _ _ h.blk (by decide)).trans h.blk,h.le,ha _ _ _ _ _ h.seen (by decide)⟩
theorem Cw.set(h:Cw B w0 w){g:Nat}(hg:w0.heap.size<=g)(hB:B<=g)(v0 v1 v2 v3 v4 v5:Value):Cw B w0 (set6 w g v0 v1 v2 v3 v4 v5):=
 ⟨qbx h.below hB _ _ _ _ _ _,fun k cs t fz hk h1=>(qci (by have:=(Array.getElem?_eq_some_iff.1 hk).1;omega) _ _ _ _ _ _).trans (h.keep k cs t fz hk h1)⟩
theorem Tm.lt(h:Tm K w0 wr gw ve vS E R F p):w0.heap.size+1<wr.heap.size:=(lta h.res)
theorem Tm.kept(h:Tm K w0 wr gw ve vS E R F p)(hb:Below wr.heap.size wr w')(hB:K.B<=w0.heap.size):Tm K w0 w' gw ve vS E R F p:=by
 have hl:=h.lt;exact⟨(hb.block _ (by omega)).trans h.spot,(hb.block _ hl).trans h.res,h.wk.kept hb,h.ck.trans (Cw.of_below hb (by omega))⟩
theorem Tm.drew(h:Tm K w0 wr gw ve vS E R F p):Tm K w0 wr.drew gw ve vS E R F p:=
 ⟨h.spot,h.res,⟨⟨h.wk.at_.tp.drew,qac h.wk.at_.ends fun _ _=>rfl⟩,h.wk.blk,h.wk.le,qac h.wk.seen fun _ _=>rfl⟩,h.ck.below.drew,h.ck.keep⟩
theorem Tm.trod(h:Tm K w0 wr gw ve vS E R F p)(hc:Cw K.B wr w')(hw:WkAt K w' gw ve' vS' E' R' F):Tm K w0 w' gw ve' vS' E' R' F p:=
 ⟨(hc.keep _ _ _ _ h.spot (by decide)).trans h.spot,(hc.keep _ _ _ _ h.res (by decide)).trans h.res,hw,h.ck.trans hc⟩
theorem Tm.ended(h:Tm K w0 wr gw ve vS E R F p)(ha:Ck K.B wr w')(Ha:K.at_ w' ve' E'):Tm K w0 w' gw ve' vS E' R F p:=h.trod (Cw.of_ck ha) (h.wk.ended ha Ha)
theorem Tm.set(h:Tm K w0 wr gw ve vS E R F p)(hB:K.B<=w0.heap.size)(q:Pl.Sp):Tm K w0 (set6 wr w0.heap.size (.int .i64 q.mode) (.string ⟨q.tag.toArray⟩) (.string ⟨q.attr.toArray⟩) (.string ⟨q.inside.toArray⟩) (.string ⟨q.run.toArray⟩) (.int .i64 q.far)) gw ve vS E R F q:=
 ⟨qg2 h.spot _ _ _ _ _ _,(qci (by omega) _ _ _ _ _ _).trans h.res,h.wk.set h.spot _ _ _ _ _ _,h.ck.set (Nat.le_refl _) hB _ _ _ _ _ _⟩
theorem Tm.setFar(h:Tm K w0 wr gw ve vS E R F p)(hB:K.B<=w0.heap.size){g:Nat}{cs:Array Value}{fz:Nat×Nat}(hg:wr.heap[g]?=some (.cells cs 94 fz))(ha:w0.heap.size+1<g)(v0 v1 v2 v3 v4 v5:Value):Tm K w0 (set6 wr g v0 v1 v2 v3 v4 v5) gw ve vS E R F p:=
 ⟨(qci (by omega) _ _ _ _ _ _).trans h.spot,(qci (by omega) _ _ _ _ _ _).trans h.res,h.wk.set hg _ _ _ _ _ _,h.ck.set (by omega) (by omega) _ _ _ _ _ _⟩
theorem Tm.out(h:Tm K w0 wr gw ve vS E R F p)(hB:K.B<=w0.heap.size)(v0 v1 v2 v3 v4 v5:Value):WkAt K (set6 wr (w0.heap.size+1) v0 v1 v2 v3 v4 v5) gw ve vS E R F/\Cw K.B w0 (set6 wr (w0.heap.size+1) v0 v1 v2 v3 v4 v5):=
 ⟨h.wk.set h.res _ _ _ _ _ _,h.ck.set (by omega) (by omega) _ _ _ _ _ _⟩
theorem WkAt.apart(h:WkAt K w gw ve vS E R F)(hb:Below w.heap.size w w1)(Ha:w1.grownBy w' vS.ownBlock){k:Nat}{cs:Array Value}{t:TypeId}{fz:Nat×Nat}(hk:w.heap[k]?=some (.cells cs t fz))(ht:t≠143):w'.heap[k]?=w.heap[k]?:=by
 have ha:=(Array.getElem?_eq_some_iff.1 hk).1;refine(Ha.block k (Nat.lt_of_lt_of_le ha hb.size) (fun e=>?_)).trans (hb.block k ha);obtain⟨cur,hc⟩:=qad h.seen k e.symm;exact qae hk hc ht rfl
theorem WkAt.ahead(h:WkAt K w gw ve vS E R F)(hb:Below w.heap.size w w1)(ha:w1.grownBy w' vS.ownBlock):w'.cell? ⟨gw,1,none⟩=some vS/\w'.frozen? ⟨gw,1,none⟩=false:=by
 have hg:=(h.apart hb ha h.blk (by decide)).trans h.blk;exact⟨qaa hg 1 _ rfl,frozen_of_row _ _ 1 _ _ hg⟩
theorem Tm.more(h:Tm K w0 wr gw ve vS E R F p)(hB:K.B<=w0.heap.size)(hb:Below wr.heap.size wr w1)(u:Pl.Vt)(Hc:w'.ownsRow K.B 143 10 vS' (R.length+1) (qch R++(qcf u.1 u.2.view).toList))(he:w1.grownBy w' vS.ownBlock)(He:vS'.ownBlock=vS.ownBlock\/vS'.ownBlock=some w1.heap.size) :
  Tm K w0 (w'.setCell ⟨gw,1,none⟩ vS') gw ve vS' E (R++[u]) F p:=by
 have hg:=(h.wk.apart hb he h.wk.blk (by decide)).trans h.wk.blk;have Hf:=(lta h.wk.blk);have Hg:=hb.size;have hi:=h.lt;have hf:vS'.ownBlock≠some gw:=by
  intro q;rcases He with z|z
  ·rw[q]at z
   obtain⟨cur,hc⟩:=qad h.wk.seen gw z.symm;exact qae h.wk.blk hc (by decide) rfl
  ·rw[q]at z
   injection z with z;omega
 have Hb:∀k,k≠gw->(w'.setCell ⟨gw,1,none⟩ vS').heap[k]?=w'.heap[k]?:=fun k hk=>Below.heap_setCell _ _ _ _ hk;have ha:∀(k:Nat) (cs:Array Value) (t:TypeId) (fz:Nat×Nat),wr.heap[k]?=some (.cells cs t fz)->t≠143->t≠92->(w'.setCell ⟨gw,1,none⟩ vS').heap[k]?=wr.heap[k]?:=fun k cs t fz hk h1 h2=>(Hb k (qae hk h.wk.blk h2)).trans (h.wk.apart hb he hk h1);have Ha:∀(t:TypeId) (sz n:Nat) (v:Value) (xs:List Value),wr.ownsRow K.B t sz v n xs->t≠143->t≠92->(w'.setCell ⟨gw,1,none⟩ vS').ownsRow K.B t sz v n xs:=fun t sz n v xs hv h1 h2=>qac hv fun k hk=>by
  obtain⟨cur,hc⟩:=qad hv k hk;exact ha _ _ _ _ hc h1 h2
 have a:=h.wk.at_;refine⟨(ha _ _ _ _ h.spot (by decide) (by decide)).trans h.spot,(ha _ _ _ _ h.res (by decide) (by decide)).trans h.res,⟨⟨⟨(ha _ _ _ _ a.tp.blk (by decide) (by decide)).trans a.tp.blk,a.tp.le,Ha _ _ _ _ _ a.tp.parts (by decide) (by decide),fun i s hs=>⟨Ha _ _ _ _ _ (a.tp.row i s hs).1 (by decide) (by decide),(a.tp.row i s hs).2⟩⟩,Ha _ _ _ _ _ a.ends (by decide) (by decide)⟩,heap_setCell_same w' gw 1 _ _ _ hg,h.wk.le,?_⟩,?_,fun k cs t fz hk h1=>?_⟩
 ·rw[List.length_append,qmq]
  exact qac Hc fun k hk=>Hb k (fun e=>hf (by rw[<-e];exact hk))
 ·exact((h.ck.below.trans (hb.mono (by omega))).grown he (by omega) (fun q hq=>(World.ownsRow.lt h.wk.seen q hq).1)).setCell h.wk.le _
 ·have:=h.ck.keep k cs t fz hk h1
  exact(ha k cs t fz (this.trans hk) h1.2.2 h1.2.1).trans this
theorem qvf{W:List Pl.Vt}(h:Pl.EInv K.bd R r E W)(hp:R <+: R'):Pl.EInv K.bd R' r E W:=⟨fun e he=>⟨(h.each e he).cm,Pl.qzg (h.each e he).ins hp,(h.each e he).sp,(h.each e he).yes,(h.each e he).no⟩,h.apart,fun u hu=>⟨Pl.qzg (h.wins u hu).1 hp,(h.wins u hu).2⟩⟩
theorem Tp.text(h:Tp K R0 R E0 E r0 r j off len i x0 x p)(hq:(Pl.qab K.S j)[i]?=some pt)(hi:i<off+len)(hk:pt.kind=1)(hl:pt.text.length<=2000) :
  Tp K R0 R E0 E r0 (r+pt.text.length) j off len (i+1) x0 (Pl.qav x pt.text) (Pl.qda p pt.text):=by
 have:=h.le;have:=h.lo;exact⟨qx1 h.inv (by omega),Pl.qtb _ _ h.cm,Pl.qpe _ _ _ h.cm.fit.fit.ok h.par,Pl.spFromOk _ _ _ h.sp,h.pre,h.all,h.few,h.lenE,by have:=h.up;omega,by omega,by omega,by omega,fun h6=>⟨fun R2 hR hc=>(h.cl h6).1 R2 hR (Pl.q92 hq hk hc),(h.cl h6).2⟩⟩
theorem Tp.hole(h:Tp K R0 R E0 E r0 r j off len i x0 x p)(hq:(Pl.qab K.S j)[i]?=some pt)(hi:i<off+len)(hk:pt.kind=2) :
  Tp K R0 R E0 E r0 r j off len (i+1) x0 x.behindHole p.behindHole:=by
 have:=h.le;have:=h.lo;refine⟨h.inv,Pl.qyb h.cm,Pl.qfl _ _ h.cm.fit.fit.ok h.par,?_,h.pre,h.all,h.few,h.lenE,h.up,by omega,by omega,by omega,fun h6=>⟨fun R2 hR hc=>(h.cl h6).1 R2 hR (Pl.q95 hq hk hc),(h.cl h6).2⟩⟩;unfold Pl.Sp.behindHole;split
 ·exact⟨h.sp.mode,h.sp.tag,h.sp.attr,h.sp.inside,h.sp.run⟩
 ·exact h.sp
theorem Tp.skip(h:Tp K R0 R E0 E r0 r j off len i x0 x p)(hi:i<off+len)(hq:∀R2,K.cl R2 j (i+1) x->K.cl R2 j i x) :
  Tp K R0 R E0 E r0 r j off len (i+1) x0 x p:=by
 have:=h.le;have:=h.lo;exact⟨h.inv,h.cm,h.par,h.sp,h.pre,h.all,h.few,h.lenE,h.up,by omega,by omega,by omega,fun h6=>⟨fun R2 hR hc=>(h.cl h6).1 R2 hR (hq R2 hc),(h.cl h6).2⟩⟩
theorem Tp.sec(h:Tp K R0 R E0 E r0 r j off len i x0 x p)(hq:(Pl.qab K.S j)[i]?=some pt)(hk:pt.kind=3\/pt.kind=4)(hm:i<pt.mate)(hl:pt.mate<off+len)(ht:TrP K R R' E E' r r' j (i+1) (pt.mate - (i+1)) x) :
  Tp K R0 R' E0 E' r0 r' j off len (pt.mate+1) x0 x p:=by
 have:=h.le;have:=h.lo;have:=ht.le;have:=h.lenE;have:=ht.lenE;have:=h.pre.length_le;have:=ht.pre.length_le;refine⟨ht.inv,h.cm,h.par,h.sp.le ht.up,h.pre.trans ht.pre,ht.all,ht.few,by omega,Nat.le_trans h.up ht.up,by omega,by omega,by omega,fun h6=>⟨fun R2 hR hc=>?_,fun v hv hn=>?_⟩⟩
 ·have ha:∀u∈R,u∈R':=fun u hu=>ht.pre.subset hu
  exact(h.cl (by omega)).1 R2 (fun u hu=>hR u (ha u hu)) (Pl.zax hq hk ((ht.cl h6).1.mono hR) hc)
 ·by_cases q:v∈R
  ·exact((h.cl (by omega)).2 v q hn).mono fun u hu=>ht.pre.subset hu
  ·exact(ht.cl h6).2 v hv q
theorem Tp.visit(h:Tp K R0 R E0 E r0 r j off len i x0 x p)(ht:TrP K (R++[(m,x)]) R' E E' r r' (m+1) 0 (Pl.qab K.S (m+1)).length x)(hl:(Pl.qab K.S (m+1)).length<=2000) :
  Tp K R0 R' E0 E' r0 r' j off len i x0 x p/\(m,x)∈R':=by
 have:=h.le;have:=h.lo;have:=ht.le;have:=h.lenE;have:=ht.lenE;have:=h.pre.length_le;have hp:=ht.pre.length_le;have Ha:=ht.le;rw[List.length_append]at hp Ha;simp only[List.length_cons,List.length_nil]at hp Ha;have ha:∀u∈R,u∈R':=fun u hu=>ht.pre.subset (List.mem_append_left _ hu);have hm:(m,x)∈R':=ht.pre.subset (List.mem_append_right _ List.mem_cons_self);refine⟨⟨ht.inv,h.cm,h.par,h.sp.le ht.up,h.pre.trans ((List.prefix_append _ _).trans ht.pre),ht.all,ht.few,by omega,Nat.le_trans h.up ht.up,by omega,h.lo,h.hi,fun h6=>⟨fun R2 hR hc=>(h.cl (by omega)).1 R2 (fun u hu=>hR u (ha u hu)) hc,fun v hv hn=>?_⟩⟩,hm⟩;by_cases q:v∈R
 ·exact((h.cl (by omega)).2 v q hn).mono ha
 ·by_cases q2:v=(m,x)
  ·rw[q2];exact(ht.cl h6).1
  ·exact(ht.cl h6).2 v hv (fun z=>(List.mem_append.1 z).elim q fun z=>q2 (List.mem_singleton.1 z))
theorem Tp.visit0(h:Tp K R0 R E0 E r0 r j off len i x0 x p)(h6:R.length<=256)(h7:¬R.length+1<=256)(hm:m<K.N.length) :
  Tp K R0 (R++[(m,x)]) E0 E r0 r j off len i x0 x p/\(m,x)∈R++[(m,x)]:=by
 have:=h.le;have:=h.pre.length_le;refine⟨⟨qvf h.inv (List.prefix_append _ _),h.cm,h.par,h.sp,h.pre.trans (List.prefix_append _ _),fun u hu=>?_,by rw[List.length_append];simp;omega,h.lenE,h.up,by rw[List.length_append];simp;omega,h.lo,h.hi,fun q=>?_⟩,List.mem_append_right _ List.mem_cons_self⟩
 ·rcases List.mem_append.1 hu with q | q
  ·exact h.all u q
  ·rw[List.mem_singleton.1 q];exact⟨h.cm,hm⟩
 ·rw[List.length_append]at q
  simp at q;omega
theorem q9y{B:Nat->List Pl.It}{y':Pl.Sx}(h:Pl.Done B m x y)(h':Pl.Done B m x y'):y=y':=Pl.qk7 (Pl.qto h) (Pl.qto h')
theorem Tp.call(h:Tp K R0 R E0 E r0 r j off len i x0 x p)(hq:(Pl.qab K.S j)[i]?=some pt)(hi:i<off+len)(hk:pt.kind=6)(hm:Pl.qb6 K.nm pt.text=some m)(Ha:(m,x)∈R)(hb:Pl.Done K.bd m x y)(hp:Pl.ParX y p')(hc:Pl.Cm y)(hv:Pl.EInv K.bd R r' E' [])(hs:Pl.SpOk r' p')(hl:E.length<=E'.length)(hu:r<=r')(hr:r'<=r+4000000*(E'.length - E.length)+0) :
  Tp K R0 R E0 E' r0 r' j off len (i+1) x0 y p':=by
 have:=h.le;have:=h.lo;have:=h.lenE;exact⟨hv,hc,hp,hs,h.pre,h.all,h.few,by omega,Nat.le_trans h.up hu,by omega,by omega,by omega,fun h6=>⟨fun R2 hR hc=>(h.cl h6).1 R2 hR (Pl.q44 hq hk hm (hR _ Ha) fun y' ha=>q9y hb ha▸hc),(h.cl h6).2⟩⟩
theorem Tp.nodone(h:Tp K R0 R E0 E r0 r j off len i x0 x p)(hq:(Pl.qab K.S j)[i]?=some pt)(hi:i<off+len)(hk:pt.kind=6)(hm:Pl.qb6 K.nm pt.text=some m)(ha:(m,x)∈R)(Ha:∀y,¬Pl.Done K.bd m x y)(hv:Pl.EInv K.bd R r' E' [])(hl:E.length<=E'.length)(hu:r<=r')(hr:r'<=r+4000000*(E'.length - E.length)+0):TrP K R0 R E0 E' r0 r' j off len x0:=by
 have:=h.le;have:=h.lo;have:=h.lenE;exact⟨hv,h.pre,h.all,h.few,by omega,Nat.le_trans h.up hu,by omega,fun h6=>⟨(h.cl h6).1 R (fun _ q=>q) (Pl.q44 hq hk hm ha fun y hy=>absurd hy (Ha y)),(h.cl h6).2⟩⟩
theorem Tp.done(h:Tp K R0 R E0 E r0 r j off len (off+len) x0 x p)(hz:∀q,(Pl.qab K.S j)[off+len]?=some q->q.kind=5):TrP K R0 R E0 E r0 r j off len x0:=by
 refine⟨h.inv,h.pre,h.all,h.few,h.lenE,h.up,by have:=h.le;omega,fun h6=>⟨(h.cl h6).1 R (fun _ q=>q) ?_,(h.cl h6).2⟩⟩;cases hq:(Pl.qab K.S j)[off+len]? with
 |none=>exact Pl.q93 (List.getElem?_eq_none_iff.1 hq)
 |some q=>exact Pl.q73 hq (hz q hq)
theorem Tp.wide(h:Tp K R0 R E0 E r0 r j off len i x0 x p)(h7:¬R.length<=256):TrP K R0 R E0 E r0 r j off len x0:=
 ⟨h.inv,h.pre,h.all,h.few,h.lenE,h.up,by have:=h.le;have:=h.hi;have:=h.lo;omega,fun h6=>absurd h6 h7⟩
end
namespace Pl
theorem qrt{o:Nat}{L:List Pt}(h:Wf o L):L=[]\/(∃p l,L=p::l/\(p.kind=1\/p.kind=2\/p.kind=6)/\Wf (o+1) l)\/∃p q b l,L=p::(b++q::l)/\(p.kind=3\/p.kind=4)/\p.mate=o+1+b.length/\Wf (o+1) b/\Wf (o+b.length+2) l:=by
 cases h with
 |nil=>exact .inl rfl
 |leaf _ p l h1 h2=>exact .inr (.inl ⟨p,l,rfl,h1,h2⟩)
 |sec _ p q b l h1 _ h3 _ h5 h6=>exact .inr (.inr ⟨p,q,b,l,by simp,h1,h3,h5,h6⟩)
def sgm(P:List Pt)(i t:Nat):List Pt:=(P.take t).drop i
theorem q26(P:List Pt):sgm P 0 P.length=P:=by unfold sgm;rw[List.take_length,List.drop_zero]
section
variable {P:List Pt}{i t:Nat}{p:Pt}
theorem qsa(hp:P[i]?=some p)(hi:i<t):sgm P i t=p::sgm P (i+1) t:=by
 have h:(P.take t)[i]?=some p:=by rw[List.getElem?_take,if_pos hi];exact hp
 obtain⟨h1,h2⟩:=List.getElem?_eq_some_iff.1 h;unfold sgm;rw[List.drop_eq_getElem_cons h1,h2]
theorem q8m(h:Wf i (sgm P i t))(hp:P[i]?=some p)(hi:i<t):p.kind≠5:=by
 rw[qsa hp hi]at h;rcases qrt h with q|⟨p',l',q,q1,_⟩|⟨p',q',b,l',q,q1,_⟩
 ·cases q
 ·injection q with e1 e2;rw[e1];omega
 ·injection q with e1 e2;rw[e1];omega
theorem qns(h:Wf i (sgm P i t))(hp:P[i]?=some p)(hi:i<t)(hk:p.kind=1\/p.kind=2\/p.kind=6):Wf (i+1) (sgm P (i+1) t):=by
 rw[qsa hp hi]at h;rcases qrt h with q|⟨p',l',q,q1,q2⟩|⟨p',q',b,l',q,q1,_⟩
 ·cases q
 ·injection q with e1 e2;rw[e2];exact q2
 ·injection q with e1 e2;rw[<-e1]at q1;omega
theorem q25(h:Wf i (sgm P i t))(hp:P[i]?=some p)(hi:i<t)(hk:p.kind=3\/p.kind=4):i<p.mate/\p.mate<t/\Wf (i+1) (sgm P (i+1) p.mate)/\Wf (p.mate+1) (sgm P (p.mate+1) t):=by
 rw[qsa hp hi]at h;rcases qrt h with q|⟨p',l',q,q1,q2⟩|⟨p',q',b,l',q,_,q2,q3,q4⟩
 ·cases q
 ·injection q with e1 e2;rw[<-e1]at q1;omega
 ·injection q with e1 e2
  subst e1;have hl:=congrArg List.length e2;unfold sgm at hl;rw[List.length_drop,List.length_take,List.length_append,List.length_cons]at hl;have e:∀c,sgm P (i+1+c) t=(b++q'::l').drop c:=fun c=>by rw[<-e2];unfold sgm;rw[List.drop_drop]
  refine⟨by omega,by omega,?_,?_⟩
  ·have:sgm P (i+1) p.mate=b:=by
    unfold sgm at e2 |-;have h1:P.take p.mate=(P.take t).take p.mate:=by rw[List.take_take,Nat.min_eq_left (by omega)]
    rw[h1,List.drop_take,e2,show p.mate - (i+1)=b.length by omega,List.take_left'];rfl
   rw[this];exact q3
  ·rw[show p.mate+1=i+1+(b.length+1) by omega,e,show b++q'::l'=(b++[q'])++l' by simp,List.drop_left' (by simp),show i+1+(b.length+1)=i+b.length+2 by omega]
   exact q4
end
def Th(S:List Src)(j i stop:Nat)(x:Sx)(R R':List Vt)(f:Ft)(e:Option Sx):Prop:=∃n,ThD S n j i stop x R R' f e
section
variable {S:List Src}{j i stop m:Nat}{x y:Sx}{R R1 R':List Vt}{f f1:Ft}{e e1:Option Sx}{p:Pt}
theorem Th.fin(h:stop<=i):Th S j i stop x R R Ft.none (some x):=⟨1,.inl ⟨h,rfl,rfl,rfl⟩⟩
theorem Th.scheme{t:Nat}(hi:i<stop)(hp:(qab S j)[i]?=some p)(hk:p.kind=1)(h:qbj x p.text=some t):Th S j i stop x R R ⟨3,14,qen S j,p.pos+t⟩ Option.none:=⟨1,.inr ⟨p,hi,hp,.inl ⟨hk,t,h,rfl,rfl,rfl⟩⟩⟩
theorem Th.text(hi:i<stop)(hp:(qab S j)[i]?=some p)(hk:p.kind=1)(h:qbj x p.text=Option.none)(ht:Th S j (i+1) stop (qav x p.text) R R' f e):Th S j i stop x R R' f e:=ht.elim fun n q=>⟨n+1,.inr ⟨p,hi,hp,.inr (.inl ⟨hk,h,q⟩)⟩⟩
theorem Th.bad(hi:i<stop)(hp:(qab S j)[i]?=some p)(hk:p.kind=2)(h:x.hole.2≠0):Th S j i stop x R R ⟨3,x.hole.2,qen S j,p.pos⟩ Option.none:=⟨1,.inr ⟨p,hi,hp,.inr (.inr (.inl ⟨hk,h,rfl,rfl,rfl⟩))⟩⟩
theorem Th.hole(hi:i<stop)(hp:(qab S j)[i]?=some p)(hk:p.kind=2)(h:x.hole.2=0)(ht:Th S j (i+1) stop x.behindHole R R' f e):Th S j i stop x R R' f e:=ht.elim fun n q=>⟨n+1,.inr ⟨p,hi,hp,.inr (.inr (.inr (.inl ⟨hk,h,q⟩)))⟩⟩
theorem Th.absent(hi:i<stop)(hp:(qab S j)[i]?=some p)(hk:p.kind=6)(h:qb6 (nmOf S) p.text=Option.none)(ht:Th S j (i+1) stop x R R' f e):Th S j i stop x R R' f e:=ht.elim fun n q=>⟨n+1,.inr ⟨p,hi,hp,.inr (.inr (.inr (.inr (.inr (.inl ⟨hk,h,q⟩)))))⟩⟩
theorem Th.secBad(hi:i<stop)(hp:(qab S j)[i]?=some p)(hk:p.kind=3\/p.kind=4)(h1:Th S j (i+1) p.mate x R R1 f1 e1)(h:f1.code≠0):Th S j i stop x R R1 f1 Option.none:=
 h1.elim fun n q=>⟨n+1,.inr ⟨p,hi,hp,.inr (.inr (.inr (.inr (.inl ⟨hk,R1,f1,e1,q,.inl ⟨h,rfl,rfl,rfl⟩⟩))))⟩⟩
theorem Th.branch(hi:i<stop)(hp:(qab S j)[i]?=some p)(hk:p.kind=3\/p.kind=4)(h1:Th S j (i+1) p.mate x R R1 f1 (some y))(h:f1.code=0)(hy:y≠x):Th S j i stop x R R1 ⟨3,13,qen S j,p.pos⟩ Option.none:=
 h1.elim fun n q=>⟨n+1,.inr ⟨p,hi,hp,.inr (.inr (.inr (.inr (.inl ⟨hk,R1,f1,_,q,.inr (.inl ⟨h,⟨y,rfl,hy⟩,rfl,rfl,rfl⟩)⟩))))⟩⟩
theorem Th.sec(hi:i<stop)(hp:(qab S j)[i]?=some p)(hk:p.kind=3\/p.kind=4)(hm:p.mate<stop)(h1:Th S j (i+1) p.mate x R R1 f1 e1)(h:f1.code=0)(he:e1=Option.none\/e1=some x)(ht:Th S j (p.mate+1) stop x R1 R' f e):Th S j i stop x R R' f e:=by
 obtain⟨n,q⟩:=h1;obtain⟨n',q'⟩:=ht;exact⟨max n n'+1,.inr ⟨p,hi,hp,.inr (.inr (.inr (.inr (.inl ⟨hk,R1,f1,e1,qnn q (Nat.le_max_left _ _),.inr (.inr ⟨h,he,hm,qnn q' (Nat.le_max_right _ _)⟩)⟩))))⟩⟩
def VsD(S:List Src)(m:Nat)(x:Sx)(R R1:List Vt)(f1:Ft):Prop:=((m,x)∈R/\R1=R/\f1=Ft.none)\/((m,x)∉R/\∃e1,Th S (m+1) 0 (qab S (m+1)).length x (R++[(m,x)]) R1 f1 e1)
theorem VsD.at_(h:VsD S m x R R1 f1):∃n,∀n',n<=n'->(((m,x)∈R/\R1=R/\f1=Ft.none)\/((m,x)∉R/\∃e1,ThD S n' (m+1) 0 (qab S (m+1)).length x (R++[(m,x)]) R1 f1 e1)):=by
 rcases h with h|⟨h,e1,n,q⟩
 ·exact⟨0,fun _ _=>.inl h⟩
 ·exact⟨n,fun n' hn=>.inr ⟨h,e1,qnn q hn⟩⟩
theorem Th.callBad(hi:i<stop)(hp:(qab S j)[i]?=some p)(hk:p.kind=6)(hm:qb6 (nmOf S) p.text=some m)(hv:VsD S m x R R1 f1)(h:f1.code≠0):Th S j i stop x R R1 f1 Option.none:=
 hv.at_.elim fun n q=>⟨n+1,.inr ⟨p,hi,hp,.inr (.inr (.inr (.inr (.inr (.inr ⟨hk,m,hm,R1,f1,q n (Nat.le_refl _),.inl ⟨h,rfl,rfl,rfl⟩⟩)))))⟩⟩
theorem Th.call(hi:i<stop)(hp:(qab S j)[i]?=some p)(hk:p.kind=6)(hm:qb6 (nmOf S) p.text=some m)(hv:VsD S m x R R1 f1)(h:f1.code=0)(hy:Done (bdOf S) m x y)(ht:Th S j (i+1) stop y R1 R' f e):Th S j i stop x R R' f e:=by
 obtain⟨n,q⟩:=hv.at_;obtain⟨n',q'⟩:=ht;exact⟨max n n'+1,.inr ⟨p,hi,hp,.inr (.inr (.inr (.inr (.inr (.inr ⟨hk,m,hm,R1,f1,q _ (Nat.le_max_left _ _),.inr (.inl ⟨h,y,hy,qnn q' (Nat.le_max_right _ _)⟩)⟩)))))⟩⟩
theorem Th.never(hi:i<stop)(hp:(qab S j)[i]?=some p)(hk:p.kind=6)(hm:qb6 (nmOf S) p.text=some m)(hv:VsD S m x R R1 f1)(h:f1.code=0)(hy:∀y,¬Done (bdOf S) m x y):Th S j i stop x R R1 Ft.none Option.none:=
 hv.at_.elim fun n q=>⟨n+1,.inr ⟨p,hi,hp,.inr (.inr (.inr (.inr (.inr (.inr ⟨hk,m,hm,R1,f1,q n (Nat.le_refl _),.inr (.inr ⟨h,hy,rfl,rfl,rfl⟩)⟩)))))⟩⟩
end
end Pl
theorem Pl.wrong_stays:∀(l:List UInt8) (p:Pl.Sp) (g:Int) (i:Nat),¬g<0->Pl.wrongFrom p g i l=g
 |[],_,_,_,_=>rfl
 |b::l,p,g,i,h=>by
   unfold Pl.wrongFrom;rw[if_neg (fun q=>h q.1)];exact Pl.wrong_stays l _ _ _ h
theorem Pl.wrong_scheme:∀(l:List UInt8) (x:Pl.Sx) (p:Pl.Sp) (i:Nat),Pl.Cm x->Pl.ParX x p->Pl.wrongFrom p (-1) i l=match Pl.qbj x l with|some t=>((i+t:Nat):Int)|Option.none=>-1
 |[],_,_,_,_,_=>rfl
 |b::l,x,p,i,hc,hp=>by
   unfold Pl.wrongFrom Pl.qbj;rw[Pl.qwv x p b hc.fit.fit.ok hp];by_cases h:b=58/\p.view.link=4
   ·rw[if_pos ⟨by omega,h⟩,if_pos (by simp[h.1,h.2]),Pl.wrong_stays _ _ _ _ (by omega)]
    rfl
   ·rw[if_neg (fun q=>h q.2),if_neg (by simpa using h),Pl.wrong_scheme l (x.behind b) (p.next b) (i+1) (Pl.qtb [b] x hc) (Pl.qo0 x p b hc.fit.fit.ok hp)]
    cases Pl.qbj (x.behind b) l with
    |none=>rfl
    |some t=>show((i+1+t:Nat):Int)=((i+(t+1):Nat):Int);omega
theorem za0{K:Sk}(h:Pl.nmOf K.S=K.nm):Pl.bdOf K.S=K.bd:=by funext n;unfold Pl.bdOf Sk.bd;rw[h]
structure ThP(K:Sk)(RR R0 R:List Pl.Vt)(E0 E:List Pl.Et)(r0 r j off len:Nat)(x0:Pl.Sx)(F:Pl.Ft)(p':Pl.Sp)(ok:Bool):Prop where
 inv:Pl.EInv K.bd RR r E []
 pre:R0 <+: R
 sub:∀u∈R,u∈RR
 nod:R.Nodup
 lenE:E0.length<=E.length
 up:r0<=r
 le:r<=r0+4000000*(E.length - E0.length)+4000000*(R.length - R0.length)+2000*len
 sp:Pl.SpOk r p'
 th:∃e,Pl.Th K.S j off (off+len) x0 R0 R F e/\(ok=true->∃y,e=some y/\Pl.ParX y p'/\Pl.Cm y)/\(ok=false->e=Option.none)
def WthO(K:Sk)(RR:List Pl.Vt)(w:World)(gw:Nat)(E:List Pl.Et)(R:List Pl.Vt)(r j off len:Nat)(x:Pl.Sx)(e:Ending)(w':World):Prop:=
 ∃p' ok ve' vS' E' R' r' F',e=.returned (.tuple #[qau p',.bool ok])/\WkAt K w' gw ve' vS' E' R' F'/\Cw K.B w w'/\ThP K RR R R' E E' r r' j off len x F' p' ok
def WthC(K:Sk)(RR:List Pl.Vt)(k:Nat):Prop:=∀(w:World) (gw:Nat) (ve vS v:Value) (wh:ByteArray) (E:List Pl.Et) (R:List Pl.Vt) (r j off len:Nat) (x:Pl.Sx) (p:Pl.Sp),
 WkAt K w gw ve vS E R Pl.Ft.none->SlOf (K.pv j) (Pl.qab K.S j).length off len v->wh.data.toList=Pl.qen K.S j->j<=K.N.length->off+len<=(Pl.qab K.S j).length->Pl.Wf off (Pl.sgm (Pl.qab K.S j) off (off+len)) ->
 Pl.EInv K.bd RR r E []->Pl.Cm x->Pl.ParX x p->Pl.SpOk r p->(∀u∈R,u∈RR)->R.Nodup->K.cl RR j off x->K.B<=w.heap.size ->
 (257 - R.length)*3000+len<=k->r+4000000*(429926418001 - E.length)+4000000*(257 - R.length)+2000*len<=1900000000000000000 ->
 Calls Tryz.prog 40 #[.pointer (some ⟨gw,0,none⟩),v,.string wh,qau p] w fun e w'=>WthO K RR w gw E R r j off len x e w'
structure Tq(K:Sk)(RR R0 R:List Pl.Vt)(E0 E:List Pl.Et)(r0 r j off len i:Nat)(x0 x:Pl.Sx)(p:Pl.Sp):Prop where
 inv:Pl.EInv K.bd RR r E []
 cm:Pl.Cm x
 par:Pl.ParX x p
 sp:Pl.SpOk r p
 pre:R0 <+: R
 sub:∀u∈R,u∈RR
 nod:R.Nodup
 lenE:E0.length<=E.length
 up:r0<=r
 le:r<=r0+4000000*(E.length - E0.length)+4000000*(R.length - R0.length)+2000*(i - off)
 lo:off<=i
 hi:i<=off+len
 cl:K.cl RR j i x
 wf:Pl.Wf i (Pl.sgm (Pl.qab K.S j) i (off+len))
 th:∀R2 f e,Pl.Th K.S j i (off+len) x R R2 f e->Pl.Th K.S j off (off+len) x0 R0 R2 f e
structure Vq(K:Sk)(RR R R1:List Pl.Vt)(E E1:List Pl.Et)(r r1 m:Nat)(x:Pl.Sx)(F:Pl.Ft):Prop where
 inv:Pl.EInv K.bd RR r1 E1 []
 pre:R <+: R1
 sub:∀u∈R1,u∈RR
 nod:R1.Nodup
 lenE:E.length<=E1.length
 up:r<=r1
 le:r1<=r+4000000*(E1.length - E.length)+4000000*(R1.length - R.length)
 vs:Pl.VsD K.S m x R R1 F
section
variable {K:Sk}{RR R R1 R0:List Pl.Vt}{E E0 E1 E2:List Pl.Et}{r r0 r1 r2 j off len i m t:Nat}{x x0 y:Pl.Sx}{p p':Pl.Sp}{F:Pl.Ft}{pt:Pl.Pt}{ok:Bool}
theorem Tq.fin(h:Tq K RR R0 R E0 E r0 r j off len (off+len) x0 x p):ThP K RR R0 R E0 E r0 r j off len x0 Pl.Ft.none p true:=
 ⟨h.inv,h.pre,h.sub,h.nod,h.lenE,h.up,by have:=h.le;omega,h.sp,some x,h.th _ _ _ (Pl.Th.fin (Nat.le_refl _)),fun _=>⟨x,rfl,h.par,h.cm⟩,fun q=>by cases q⟩
theorem Tq.wrong(h:Tq K RR R0 R E0 E r0 r j off len i x0 x p)(ht:Pl.Th K.S j i (off+len) x R R F Option.none):ThP K RR R0 R E0 E r0 r j off len x0 F p false:=
 ⟨h.inv,h.pre,h.sub,h.nod,h.lenE,h.up,by have:=h.le;have:=h.hi;have:=h.lo;omega,h.sp,Option.none,h.th _ _ _ ht,fun q=>(by cases q),fun _=>rfl⟩
theorem Tq.text(h:Tq K RR R0 R E0 E r0 r j off len i x0 x p)(hq:(Pl.qab K.S j)[i]?=some pt)(hi:i<off+len)(hk:pt.kind=1)(hl:pt.text.length<=2000)(hs:Pl.qbj x pt.text=Option.none) :
  Tq K RR R0 R E0 E r0 (r+pt.text.length) j off len (i+1) x0 (Pl.qav x pt.text) (Pl.qda p pt.text):=by
 have:=h.le;have:=h.lo;have:=h.up;exact⟨qx1 h.inv (by omega),Pl.qtb _ _ h.cm,Pl.qpe _ _ _ h.cm.fit.fit.ok h.par,Pl.spFromOk _ _ _ h.sp,h.pre,h.sub,h.nod,h.lenE,by omega,by omega,by omega,by omega,h.cl.next ⟨pt,hq,.inl ⟨hk,rfl,rfl⟩⟩,Pl.qns h.wf hq hi (.inl hk),fun R2 f e ht=>h.th _ _ _ (ht.text hi hq hk hs)⟩
theorem Tq.hole(h:Tq K RR R0 R E0 E r0 r j off len i x0 x p)(hq:(Pl.qab K.S j)[i]?=some pt)(hi:i<off+len)(hk:pt.kind=2)(hs:x.hole.2=0) :
  Tq K RR R0 R E0 E r0 r j off len (i+1) x0 x.behindHole p.behindHole:=by
 have:=h.le;have:=h.lo;refine⟨h.inv,Pl.qyb h.cm,Pl.qfl _ _ h.cm.fit.fit.ok h.par,?_,h.pre,h.sub,h.nod,h.lenE,h.up,by omega,by omega,by omega,h.cl.next ⟨pt,hq,.inr (.inl ⟨hk,rfl,rfl⟩)⟩,Pl.qns h.wf hq hi (.inr (.inl hk)),fun R2 f e ht=>h.th _ _ _ (ht.hole hi hq hk hs)⟩;unfold Pl.Sp.behindHole;split
 ·exact⟨h.sp.mode,h.sp.tag,h.sp.attr,h.sp.inside,h.sp.run⟩
 ·exact h.sp
theorem Tq.absent(hN:Pl.nmOf K.S=K.nm)(h:Tq K RR R0 R E0 E r0 r j off len i x0 x p)(hq:(Pl.qab K.S j)[i]?=some pt)(hi:i<off+len)(hk:pt.kind=6)(hm:Pl.qb6 K.nm pt.text=Option.none) :
  Tq K RR R0 R E0 E r0 r j off len (i+1) x0 x p:=by
 have:=h.le;have:=h.lo;exact⟨h.inv,h.cm,h.par,h.sp,h.pre,h.sub,h.nod,h.lenE,h.up,by omega,by omega,by omega,h.cl.next ⟨pt,hq,.inr (.inr (.inr ⟨hk,rfl,.inl ⟨hm,rfl⟩⟩))⟩,Pl.qns h.wf hq hi (.inr (.inr hk)),fun R2 f e ht=>h.th _ _ _ (ht.absent hi hq hk (by rw[hN];exact hm))⟩
theorem Tq.secBad(h:Tq K RR R0 R E0 E r0 r j off len i x0 x p)(hq:(Pl.qab K.S j)[i]?=some pt)(hi:i<off+len)(hk:pt.kind=3\/pt.kind=4)(hm:i<pt.mate/\pt.mate<off+len)(ht:ThP K RR R R1 E E1 r r1 j (i+1) (pt.mate - (i+1)) x F p' ok)(hf:F.code≠0):ThP K RR R0 R1 E0 E1 r0 r1 j off len x0 F p false:=by
 have:=h.le;have:=h.lo;have:=ht.le;have:=h.lenE;have:=ht.lenE;have:=h.pre.length_le;have:=ht.pre.length_le;obtain⟨e,h1,_⟩:=ht.th;rw[show i+1+(pt.mate - (i+1))=pt.mate by omega]at h1;exact⟨ht.inv,h.pre.trans ht.pre,ht.sub,ht.nod,by omega,Nat.le_trans h.up ht.up,by omega,h.sp.le ht.up,Option.none,h.th _ _ _ (Pl.Th.secBad hi hq hk h1 hf),fun q=>(by cases q),fun _=>rfl⟩
theorem Tq.branch(h:Tq K RR R0 R E0 E r0 r j off len i x0 x p)(hq:(Pl.qab K.S j)[i]?=some pt)(hi:i<off+len)(hk:pt.kind=3\/pt.kind=4)(hm:i<pt.mate/\pt.mate<off+len)(ht:ThP K RR R R1 E E1 r r1 j (i+1) (pt.mate - (i+1)) x F p' true)(hf:F.code=0)(hv:p'.view≠p.view):ThP K RR R0 R1 E0 E1 r0 r1 j off len x0 ⟨3,13,Pl.qen K.S j,pt.pos⟩ p false:=by
 have:=h.le;have:=h.lo;have:=ht.le;have:=h.lenE;have:=ht.lenE;have:=h.pre.length_le;have:=ht.pre.length_le;obtain⟨e,h1,h2,_⟩:=ht.th;obtain⟨y,rfl,h3,h4⟩:=h2 rfl;rw[show i+1+(pt.mate - (i+1))=pt.mate by omega]at h1;exact⟨ht.inv,h.pre.trans ht.pre,ht.sub,ht.nod,by omega,Nat.le_trans h.up ht.up,by omega,h.sp.le ht.up,Option.none,h.th _ _ _ (Pl.Th.branch hi hq hk h1 hf fun q=>hv (by rw[Pl.qc8 _ _ h4.fit.fit.ok h3,Pl.qc8 _ _ h.cm.fit.fit.ok h.par,q])),fun q=>(by cases q),fun _=>rfl⟩
theorem Tq.sec(h:Tq K RR R0 R E0 E r0 r j off len i x0 x p)(hq:(Pl.qab K.S j)[i]?=some pt)(hi:i<off+len)(hk:pt.kind=3\/pt.kind=4)(ht:ThP K RR R R1 E E1 r r1 j (i+1) (pt.mate - (i+1)) x F p' ok)(hf:F.code=0)(hv:ok=true->p'.view=p.view):Tq K RR R0 R1 E0 E1 r0 r1 j off len (pt.mate+1) x0 x p:=by
 obtain⟨m1,m2,_,m4⟩:=Pl.q25 h.wf hq hi hk;have:=h.le;have:=h.lo;have:=ht.le;have:=h.lenE;have:=ht.lenE;have:=h.pre.length_le;have:=ht.pre.length_le;obtain⟨e,h1,h2,h3⟩:=ht.th;rw[show i+1+(pt.mate - (i+1))=pt.mate by omega]at h1;refine⟨ht.inv,h.cm,h.par,h.sp.le ht.up,h.pre.trans ht.pre,ht.sub,ht.nod,by omega,Nat.le_trans h.up ht.up,by omega,by omega,by omega,h.cl.next ⟨pt,hq,.inr (.inr (.inl ⟨hk,.inr rfl,rfl⟩))⟩,m4,fun R2 f e' q=>h.th _ _ _ (Pl.Th.sec hi hq hk m2 h1 hf ?_ q)⟩;cases ok with
 |false=>exact .inl (h3 rfl)
 |true=>
   obtain⟨y,rfl,h4,h5⟩:=h2 rfl;refine .inr (congrArg some (Pl.qta h5 h.cm ?_));rw[<-Pl.qc8 _ _ h5.fit.fit.ok h4,<-Pl.qc8 _ _ h.cm.fit.fit.ok h.par];exact hv rfl
theorem Tq.old(h:Tq K RR R0 R E0 E r0 r j off len i x0 x p)(ha:(m,x)∈R):Vq K RR R R E E r r m x Pl.Ft.none:=
 ⟨h.inv,List.prefix_refl _,h.sub,h.nod,Nat.le_refl _,Nat.le_refl _,by omega,.inl ⟨ha,rfl,rfl⟩⟩
theorem Vq.new(Ha:(m,x)∉R)(ht:ThP K RR (R++[(m,x)]) R1 E E1 r r1 (m+1) 0 (Pl.qab K.S (m+1)).length x F p' ok)(hl:(Pl.qab K.S (m+1)).length<=2000):Vq K RR R R1 E E1 r r1 m x F:=by
 have hp:=ht.pre.length_le;have ha:=ht.le;rw[List.length_append]at hp ha;simp only[List.length_cons,List.length_nil]at hp ha;obtain⟨e,h1,_⟩:=ht.th;rw[Nat.zero_add]at h1;exact⟨ht.inv,(List.prefix_append _ _).trans ht.pre,ht.sub,ht.nod,ht.lenE,ht.up,by omega,.inr ⟨Ha,e,h1⟩⟩
theorem Tq.callBad(hN:Pl.nmOf K.S=K.nm)(h:Tq K RR R0 R E0 E r0 r j off len i x0 x p)(hq:(Pl.qab K.S j)[i]?=some pt)(hi:i<off+len)(hk:pt.kind=6)(hm:Pl.qb6 K.nm pt.text=some m)(hv:Vq K RR R R1 E E1 r r1 m x F)(hf:F.code≠0):ThP K RR R0 R1 E0 E1 r0 r1 j off len x0 F p false:=by
 have:=h.le;have:=h.lo;have:=hv.le;have:=h.lenE;have:=hv.lenE;have:=h.pre.length_le;have:=hv.pre.length_le;exact⟨hv.inv,h.pre.trans hv.pre,hv.sub,hv.nod,by omega,Nat.le_trans h.up hv.up,by omega,h.sp.le hv.up,Option.none,h.th _ _ _ (Pl.Th.callBad hi hq hk (by rw[hN];exact hm) hv.vs hf),fun q=>(by cases q),fun _=>rfl⟩
theorem Tq.call(hN:Pl.nmOf K.S=K.nm)(h:Tq K RR R0 R E0 E r0 r j off len i x0 x p)(hq:(Pl.qab K.S j)[i]?=some pt)(hi:i<off+len)(hk:pt.kind=6)(hm:Pl.qb6 K.nm pt.text=some m)(hv:Vq K RR R R1 E E1 r r1 m x F)(hf:F.code=0)(Ha:Pl.Done K.bd m x y)(hp:Pl.ParX y p')(hc:Pl.Cm y)(ha:Pl.EInv K.bd RR r2 E2 [])(hs:Pl.SpOk r2 p')(hl:E1.length<=E2.length)(hu:r1<=r2)(hr:r2<=r1+4000000*(E2.length - E1.length)+0) :
  Tq K RR R0 R1 E0 E2 r0 r2 j off len (i+1) x0 y p':=by
 have:=h.le;have:=h.lo;have:=hv.le;have:=h.lenE;have:=hv.lenE;have:=h.pre.length_le;have:=hv.pre.length_le;have:=h.up;have:=hv.up;exact⟨ha,hc,hp,hs,h.pre.trans hv.pre,hv.sub,hv.nod,by omega,by omega,by omega,by omega,by omega,h.cl.next ⟨pt,hq,.inr (.inr (.inr ⟨hk,rfl,.inr ⟨m,hm,Ha⟩⟩))⟩,Pl.qns h.wf hq hi (.inr (.inr hk)),fun R2 f e ht=>h.th _ _ _ (Pl.Th.call hi hq hk (by rw[hN];exact hm) hv.vs hf (by rw[za0 hN];exact Ha) ht)⟩
theorem Tq.never(hN:Pl.nmOf K.S=K.nm)(h:Tq K RR R0 R E0 E r0 r j off len i x0 x p)(hq:(Pl.qab K.S j)[i]?=some pt)(hi:i<off+len)(hk:pt.kind=6)(hm:Pl.qb6 K.nm pt.text=some m)(hv:Vq K RR R R1 E E1 r r1 m x F)(hf:F.code=0)(Ha:∀y,¬Pl.Done K.bd m x y)(ha:Pl.EInv K.bd RR r2 E2 [])(hl:E1.length<=E2.length)(hu:r1<=r2)(hr:r2<=r1+4000000*(E2.length - E1.length)+0) :
  ThP K RR R0 R1 E0 E2 r0 r2 j off len x0 Pl.Ft.none p false:=by
 have:=h.le;have:=h.lo;have:=hv.le;have:=h.lenE;have:=hv.lenE;have:=h.pre.length_le;have:=hv.pre.length_le;have:=h.up;have:=hv.up;exact⟨ha,h.pre.trans hv.pre,hv.sub,hv.nod,by omega,by omega,by omega,h.sp.le (by omega),Option.none,h.th _ _ _ (Pl.Th.never hi hq hk (by rw[hN];exact hm) hv.vs hf (by rw[za0 hN];exact Ha)),fun q=>(by cases q),fun _=>rfl⟩
theorem Tq.names(h:Tq K RR R0 R E0 E r0 r j off len i x0 x p)(hq:(Pl.qab K.S j)[i]?=some pt)(hk:pt.kind=6)(hm:Pl.qb6 K.nm pt.text=some m):(m,x)∈RR:=h.cl.here ⟨pt,hq,hk,hm⟩
end
variable{o:Nat}{l:List Pl.Pt}{w:World}
theorem q5i(h:Pl.Wf o l):∀(i:Nat) (p:Pl.Pt),l[i]?=some p->(p.kind=3\/p.kind=4)->∀q,l[p.mate - o]?=some q->q.kind=5:=by
 induction h with
 |nil o=>intro i p hp;simp at hp
 |leaf o q l hk hw ih=>
   intro i p hp ha u hu;cases i with
   |zero=>simp at hp;subst hp;omega
   |succ i=>
     have hp:l[i]?=some p:=by simpa using hp
     have:=(qhj hw i p hp ha).1;rw[show p.mate - o=(p.mate - (o+1))+1 by omega,List.getElem?_cons_succ]at hu;exact ih i p hp ha u hu
 |sec o q z b l hq hz h1 h2 hb hl ihb ihl=>
   intro i p hp ha u hu;have e:q::b++z::l=q::(b++z::l):=by simp
   rw[e]at hp hu;cases i with
   |zero=>
     simp only[List.getElem?_cons_zero,Option.some.injEq]at hp;subst hp;rw[h1,show o+1+b.length - o=b.length+1 by omega,List.getElem?_cons_succ,List.getElem?_append_right (Nat.le_refl _),Nat.sub_self]at hu;simp at hu;rw[<-hu];exact hz
   |succ i=>
     simp only[List.getElem?_cons_succ]at hp;rw[List.getElem?_append]at hp;split at hp
     ·have hm:=qhj hb i p hp ha
      rw[show p.mate - o=(p.mate - (o+1))+1 by omega,List.getElem?_cons_succ,List.getElem?_append_left (by omega)]at hu;exact ihb i p hp ha u hu
     ·rename_i hi
      cases hx:i - b.length with
      |zero=>rw[hx]at hp;simp at hp;subst hp;omega
      |succ j=>
        rw[hx]at hp;have hp:l[j]?=some p:=by simpa using hp
        have hm:=qhj hl j p hp ha;rw[show p.mate - o=(p.mate - (o+b.length+2)+1+b.length)+1 by omega,List.getElem?_cons_succ,List.getElem?_append_right (by omega),show p.mate - (o+b.length+2)+1+b.length - b.length=(p.mate - (o+b.length+2))+1 by omega,List.getElem?_cons_succ]at hu;exact ihl j p hp ha u hu
theorem q78(h:Pl.Wf o l):∀(i:Nat) (p:Pl.Pt),l[i]?=some p->(p.kind=3\/p.kind=4)->∀(k:Nat) (q:Pl.Pt),i<k->o+k<p.mate->l[k]?=some q->(q.kind=3\/q.kind=4)->q.mate<p.mate:=by
 induction h with
 |nil o=>intro i p hp;simp at hp
 |leaf o q l hk hw ih=>
   intro i p hp Ha k u hk hm hu ha;obtain⟨k,rfl⟩:∃c,k=c+1:=⟨k - 1,by omega⟩;cases i with
   |zero=>simp at hp;subst hp;omega
   |succ i=>exact ih i p (by simpa using hp) Ha k u (by omega) (by omega) (by simpa using hu) ha
 |sec o q z b l hq hz h1 h2 hb hl ihb ihl=>
   intro i p hp Ha k u hk hm hu ha;have e:q::b++z::l=q::(b++z::l):=by simp
   rw[e]at hp hu;obtain⟨k,rfl⟩:∃c,k=c+1:=⟨k - 1,by omega⟩;rw[List.getElem?_cons_succ]at hu;cases i with
   |zero=>
     simp only[List.getElem?_cons_zero,Option.some.injEq]at hp;subst hp;rw[List.getElem?_append_left (by omega)]at hu;have:=qhj hb k u hu ha;omega
   |succ i=>
     simp only[List.getElem?_cons_succ]at hp;rw[List.getElem?_append]at hp;split at hp
     ·have:=qhj hb i p hp Ha
      rw[List.getElem?_append_left (by omega)]at hu;exact ihb i p hp Ha k u (by omega) (by omega) hu ha
     ·rename_i hi
      cases hx:i - b.length with
      |zero=>rw[hx]at hp;simp at hp;subst hp;omega
      |succ c=>
        rw[hx]at hp;rw[List.getElem?_append_right (by omega),show k - b.length=(k - b.length - 1)+1 by omega,List.getElem?_cons_succ]at hu;exact ihl c p (by simpa using hp) Ha (k - b.length - 1) u (by omega) (by omega) hu ha
theorem qzh:(Tryz.prog.info? 143).map (fun i=>(i.zero,i.size,i.bytes))=some (some (.agg #[.int .i64 0,.int .i64 0,.int .i64 0,.int .i64 0,.int .i64 0,.int .i64 0,.int .i64 0,.int .i64 0,.string ⟨#[]⟩,.bool false]),10,88):=by kernel_rfl
theorem qnr{B k n:Nat}{e:TypeId}{v:Value}{xs:List Value}(h:w.ownsRow B e k v n xs):∃ao cap,v=.slice ao n cap/\SlOf v n 0 n (.slice ao n cap):=by
 rcases h.2 with⟨h1,h2⟩|⟨g,cap,cur,hv,_,_,hc,_⟩
 ·exact⟨none,0,by rw[h1,h2],_,_,rfl,by omega,fun q=>by omega⟩
 ·exact⟨_,_,hv,_,_,rfl,hc,fun _=>⟨g,cap,hv,by rw[Nat.zero_mul]⟩⟩
theorem qk9{K:Sk}{w5:World}{gw:Nat}{ve vS:Value}{E E5:List Pl.Et}{R R5:List Pl.Vt}{F:Pl.Ft}{r r5 j off len:Nat}{x:Pl.Sx}{p p5:Pl.Sp}{ok:Bool}{a:Act}(hB:K.B<=w.heap.size)(hm:Tm K w w5 gw ve vS E5 R5 F p)(ht:TrP K R R5 E E5 r r5 j off len x)(h6:a.tmps.getD 6 undef=.pointer (some ⟨w.heap.size+1,0,none⟩))(h7:a.tmps.getD 7 undef=.bool ok)(ha:a.defers=[]) :
  bodyPost Tryz.prog Tryz.f33 (fun e w'=>TrO K w gw E R r j off len x F e w') .ret a (set6 w5 (w.heap.size+1) (.int .i64 p5.mode) (.string ⟨p5.tag.toArray⟩) (.string ⟨p5.attr.toArray⟩) (.string ⟨p5.inside.toArray⟩) (.string ⟨p5.run.toArray⟩) (.int .i64 p5.far)):=by
 have ho:=hm.out hB (.int .i64 p5.mode) (.string ⟨p5.tag.toArray⟩) (.string ⟨p5.attr.toArray⟩) (.string ⟨p5.inside.toArray⟩) (.string ⟨p5.run.toArray⟩) (.int .i64 p5.far);refine qbm Tryz.results33 (w.heap.size+1) _ Tryz.underlying94 rfl (by kernel_rfl) h6 ⟨_,_,hm.res,rfl⟩ ha _ _ _ _ _ _ _ h7 ?_;exact⟨p5,ok,ve,vS,E5,R5,r5,rfl,ho.1,ho.2,ht⟩
def q17(S:List Pl.Src)(N:List ByteArray)(R:List Pl.Vt):Prop:=R.length<=256/\(∀u∈R,Pl.Cm u.2/\u.1<N.length)/\Pl.Cl (fun n=>Pl.its (N.map fun y=>y.data.toList) (Pl.qab S (n+1))) (N.map fun y=>y.data.toList) (Pl.qab S 0) R 0 Pl.Sx.start/\∀v∈R,Pl.Cl (fun n=>Pl.its (N.map fun y=>y.data.toList) (Pl.qab S (n+1))) (N.map fun y=>y.data.toList) (Pl.qab S (v.1+1)) R 0 v.2
def q5e(w:World)(T:ByteArray)(L:List (ByteArray×ByteArray))(e:Ending)(w':World):Prop:=
 (∃b:Bool,e=.returned (.bool b)/\(b=false->(tkF T L).1.code=0->∃R,q17 (tkF T L).2 (L.map (·.1)) R)/\(b=true->L≠[]))/\Below w.heap.size w w'
theorem q8c{T:ByteArray}{L:List (ByteArray×ByteArray)}(h:(tkF T L).1.code=0):(L.map (·.1)).length<=6/\(tkF T L).2.length=(L.map (·.1)).length+1/\SrcsOk (tkF T L).2:=by
 unfold tkF at h |-;by_cases hf:qbq L=false
 ·rw[if_pos hf]at h;cases h
 rw[if_neg hf]at h |-;have hf:qbq L=true:=by simpa using hf
 unfold qbq at hf;rw[Bool.and_eq_true,decide_eq_true_eq]at hf;have hp:(qaq L).map (·.1)=qbh L:=by unfold qaq qbh;rw[List.map_map];rfl
 refine⟨by rw[List.length_map];exact hf.1,?_,q21 _ _ (by unfold qaq;rw[List.length_map];exact hf.1) (by rw[hp];exact hf.2) h⟩;have:=(Pl.qjz _ h).1;rw[this];simp[qaq]
theorem q77(Hu:q5f)(Hv:∀K,SkOk K->∀k,qzz K k)(T:ByteArray)(v:Value)(L:List (ByteArray×ByteArray))(w:World)(hA:qj2 w v L)(ho:∀p∈L,p.1.size<=1000000000) :
  Calls Tryz.prog 18 #[.string T,v] w fun e w'=>q5e w T L e w':=by
 have hT:=qts Hu T v L w hA ho;obtain⟨ao,cap,hv,_⟩:=hA;subst hv;have Hg:=@q8c T L;generalize hQ:(fun(e:Ending) (w':World)=>q5e w T L e w')=Q;have HQ:=hd hQ;unfold q5e at HQ;unfold qpw at hT;generalize tkF T L=Z at hT Hg HQ;obtain⟨⟨c,kd,pl,ps⟩,S⟩:=Z;simp only at hT Hg HQ;unfold qku bs at hT;have HT:=hd hT;have hw:=hd Hg;clear hT hQ Hg ho;go_enter Tryz.func18,Tryz.ntmps18
 go_upto_region 2 with(go_at_call 32;refine Calls.mono HT.out ?_;rintro e w1 ⟨⟨p,rfl,hp⟩,hb⟩;have HP:=hd hp;have HB:=hd hb;clear hp hb;dsimp only)
 have hg:=hd (HB.out.alloc (o:=.cells #[.int .i64 c,.int .i64 kd,.string ⟨pl.toArray⟩,.int .i64 ps] 31) HB.out.size);have Hi:=qaa (heap_alloc_new w1 (.cells #[.int .i64 c,.int .i64 kd,.string ⟨pl.toArray⟩,.int .i64 ps] 31)) 0 _ rfl;have HX:=(show Hid _ from(Below.refl w1.heap.size w1).alloc (Nat.le_refl _) (.cells #[.int .i64 c,.int .i64 kd,.string ⟨pl.toArray⟩,.int .i64 ps] 31));generalize World.alloc w1 _=w2 at hg HX Hi |-;generalize w1.heap.size=FB at Hi |-;by_cases hc:c=0
 rotate_left
 ·have Hy:((c:Int)==0)=false:=beq_eq_false_iff_ne.2 (by omega)
  have HC:=hd hc;clear hc;go_wp2_with fail
  rw[<-HQ.out];exact⟨⟨false,rfl,fun _ h=>absurd h HC.out,fun h=>nomatch h⟩,hg.out⟩
 subst hc;obtain⟨g,pv,RL,vp,rfl,Ho⟩:=HP.out rfl;obtain⟨Hp,Hq,hi⟩:=hw.out rfl;obtain⟨K,Ha⟩:∃K:Sk,K=⟨w.heap.size,g,S,L.map (·.1),pv,RL,vp⟩:=⟨_,rfl⟩;have hK:SkOk K:=by rw[Ha];exact⟨Hp,Hq,hi⟩
 obtain⟨s0,Hc⟩:∃s0,S[0]?=some s0:=⟨_,List.getElem?_eq_getElem (by omega)⟩;have He:Pl.qab K.S 0=s0.parts:=by rw[Ha];unfold Pl.qab;simp only[Hc]
 have Hw:=(hi.parts 0 s0 Hc).1;have hr:=hi.wf 0 s0 Hc;have Hb:K.at_ w2 (.slice none 0 0) []:=by rw[Ha];exact⟨Ho.kept HX.out,World.ownsRow_nil _ _ _ _⟩
 have hj:=(Hb.tp.row 0 s0 (by rw[Ha];exact Hc)).1;rw[(Hb.tp.row 0 s0 (by rw[Ha];exact Hc)).2.len]at hj;obtain⟨ao2,cap2,Hj,Hk⟩:=qnr hj;rw[<-He]at Hk;have hl:K.g=g:=by rw[Ha]
 have Hl:K.B=w.heap.size:=by rw[Ha]
 have hf:Hid (WkAt K (w2.alloc (.cells #[.pointer (some ⟨K.g,0,none⟩),.slice none 0 0,.int .i64 0,.int .i64 0,.string ⟨#[]⟩,.int .i64 0] 92)) w2.heap.size (.slice none 0 0) (.slice none 0 0) [] [] ⟨0,0,[],0⟩):=
  ⟨Hb.kept (ba _),heap_alloc_new _ _,by rw[Hl];exact hg.out.size,World.ownsRow_nil _ _ _ _⟩
 have Hf:=(show Hid (Below w.heap.size w (w2.alloc (.cells #[.pointer (some ⟨K.g,0,none⟩),.slice none 0 0,.int .i64 0,.int .i64 0,.string ⟨#[]⟩,.int .i64 0] 92)))from hg.out.alloc hg.out.size _);have HN:=hd (fun(W':World) (hW:WkAt K W' w2.heap.size (.slice none 0 0) (.slice none 0 0) [] [] ⟨0,0,[],0⟩)=>Hv K hK 1000000 W' w2.heap.size (.slice none 0 0) (.slice none 0 0) (.slice ao2 (Pl.qab K.S 0).length cap2) [] [] 0 0 0 _ Pl.Sx.start Pl.Sp.start ⟨0,0,[],0⟩ hW Hk (Nat.zero_le _) (by rw[Nat.zero_add];exact Nat.le_refl _) ⟨fun q hq=>(by rw[Nat.zero_add,List.getElem?_eq_none (Nat.le_refl _)]at hq;cases hq),fun i q _ _ h3 h4=>(by rw[He]at h3 |-;have:=qhj hr i q h3 h4;omega)⟩ ⟨fun e he=>absurd he List.not_mem_nil,List.nodup_nil,fun u hu=>absurd hu List.not_mem_nil⟩ Pl.qn2 Pl.ql9 (Pl.qjr 0) (fun u hu=>absurd hu List.not_mem_nil) (by simp) (Nat.le_trans hW.le (Nat.le_of_lt (lta hW.blk))) (by rw[He];simp;omega) (by rw[He];simp;omega));rw[He]at HN;unfold qau qag at HN;have Hr:=(show Hid (K=⟨w.heap.size,g,S,L.map (·.1),pv,RL,vp⟩)from Ha);have hz:=hd He;rw[hl]at hf Hf;go_upto_region 5 with fail
 generalize w2.heap.size=gw at hf HN |-;generalize World.alloc w2 _=w3 at hf Hf HN |-;have hs:=(lta hf.out.at_.tp.blk);have c0:=(qaa hf.out.at_.tp.blk 0 _ rfl).trans (congrArg some Hj);have c0':=fun o=>(qaa ((heap_alloc_old w3 o hs).trans hf.out.at_.tp.blk) 0 _ rfl).trans (congrArg some Hj);rw[hl]at c0 c0';have hm:=(show Hid (Below w3.heap.size w3 (w3.alloc (.cells #[.int .i64 1,.string ⟨#[]⟩,.string ⟨#[]⟩,.string ⟨#[]⟩,.string ⟨#[]⟩,.int .i64 0] 94)).drew)from(ba _).drew);have Hz:=hd Hc;clear hK He Hw hr Hb hj Hk Ha hl Hp Hq hi Ho Hj hs Hi Hc;go_region_with (first|(go_at_call 34;refine(qic _).mono ?_;rintro e w4 ⟨rfl,rfl⟩)|(go_at_call 33;refine Calls.mono (HN.out _ (hf.out.kept hm.out)) ?_;rintro e w5 ⟨p5,ok5,ve5,vS5,E5,R5,r5,rfl,Hm,Hs,ht⟩;dsimp only))
 all_goals
  obtain⟨aoS,capS,hx⟩:=qas Hm.seen;subst hx;have s1:=qaa Hm.blk 1 _ rfl;have Ht:=hd Hs.below;have hn:=hd ht;clear Hm Hs ht;have Hn:Hid (R5.length<=256->q17 S (L.map (·.1)) R5):=fun h6=>by
   have h:=hn.out.cl h6;have ha:=hn.out.all;have hk:=Hr.out;subst hk;exact⟨h6,ha,h.1,fun v hv=>h.2 v hv List.not_mem_nil⟩
  have Hx:Hid (¬R5.length<=256->L≠[]):=fun h6 q=>by
   have ha:=hn.out.all;have hk:=Hr.out;subst hk q;cases R5 with
   |nil=>exact h6 (Nat.zero_le _)
   |cons u R=>have:=(ha u List.mem_cons_self).2;simp at this
  by_cases h6:R5.length<=256
  ·have hy:¬(R5.length:Int) > 256:=by omega
   go_wp2_with fail
   rw[<-HQ.out];exact⟨⟨false,rfl,fun _ _=>⟨R5,Hn.out h6⟩,fun h=>nomatch h⟩,Hf.out.trans (((Below.mono hm.out Hf.out.size).trans (by rw[<-Hl];exact Ht.out)))⟩
  ·have hy:(R5.length:Int) > 256:=by omega
   go_wp2_with fail
   rw[<-HQ.out];exact⟨⟨true,rfl,(fun h=>nomatch h),fun _=>Hx.out h6⟩,Hf.out.trans (((Below.mono hm.out Hf.out.size).trans (by rw[<-Hl];exact Ht.out)))⟩
end Go.Proofs.YtfkhljmiehdgmaaGreatDoor
