/-
  Steps of the proof.
-/
import Derived.Test.YtfkhljmiehdgmaaGreatDoorCmBO
import Derived.Shelf.Abstract
import Derived.Test.YtfkhljmiehdgmaaGreatDoorCmBN
set_option maxRecDepth 100000
set_option maxHeartbeats 40000000
namespace Go.Proofs.YtfkhljmiehdgmaaGreatDoor
open Go.RowKit
variable{B:Nat}{w w':World}{N:List ByteArray}
def qew(e:Pl.Et):List Value:=(qcf e.n e.x.view).toList++((qag e.p).toList++[.bool e.ok])
def qho(E:List Pl.Et):List Value:=E.flatMap qew
theorem qxv(E:List Pl.Et):(qho E).length=E.length*17:=by
 induction E with
 |nil=>rfl
 |cons p L ih=>show(qho L).length+17=_;rw[ih,List.length_cons];omega
theorem qu8(L:List Pl.Et)(p:Pl.Et):qho (L++[p])=qho L++qew p:=by simp[qho]
theorem qmg:∀(L:List Pl.Et) (k:Nat) (p:Pl.Et),L[k]?=some p->∀(j:Nat) (v:Value),(qew p)[j]?=some v->(qho L)[k*17+j]?=some v
 |[],k,p,e=>by simp at e
 |q::L,0,p,e=>by
   simp only[List.getElem?_cons_zero,Option.some.injEq]at e;subst e;intro j v hv;show(qew q++qho L)[0*17+j]?=some v;rw[Nat.zero_mul,Nat.zero_add,List.getElem?_append_left (List.getElem?_eq_some_iff.1 hv).1];exact hv
 |q::L,k+1,p,e=>by
   intro j v hv;have:=qmg L k p (by simpa using e) j v hv;show(qew q++qho L)[(k+1)*17+j]?=some v;rw[List.getElem?_append_right (by simp[qew,qcf,qag];omega)];have e:(k+1)*17+j - (qew q).length=k*17+j:=by simp[qew,qcf,qag];omega
   rw[e];exact this
def qch(W:List Pl.Vt):List Value:=W.flatMap fun u=>(qcf u.1 u.2.view).toList
theorem qkb(W:List Pl.Vt):(qch W).length=W.length*10:=by
 induction W with
 |nil=>rfl
 |cons p L ih=>show(qch L).length+10=_;rw[ih,List.length_cons];omega
theorem qmq(L:List Pl.Vt)(u:Pl.Vt):qch (L++[u])=qch L++(qcf u.1 u.2.view).toList:=by simp[qch]
theorem qqc:∀(L:List Pl.Vt) (k:Nat) (u:Pl.Vt),L[k]?=some u->∀(j:Nat) (v:Value),(qcf u.1 u.2.view).toList[j]?=some v->(qch L)[k*10+j]?=some v
 |[],k,p,e=>by simp at e
 |q::L,0,p,e=>by
   simp only[List.getElem?_cons_zero,Option.some.injEq]at e;subst e;intro j v hv;show((qcf q.1 q.2.view).toList++qch L)[0*10+j]?=some v;rw[Nat.zero_mul,Nat.zero_add,List.getElem?_append_left (List.getElem?_eq_some_iff.1 hv).1];exact hv
 |q::L,k+1,p,e=>by
   intro j v hv;have:=qqc L k p (by simpa using e) j v hv;show((qcf q.1 q.2.view).toList++qch L)[(k+1)*10+j]?=some v;rw[List.getElem?_append_right (by simp[qcf];omega)];have e:(k+1)*10+j - ((qcf q.1 q.2.view).toList).length=k*10+j:=by simp[qcf];omega
   rw[e];exact this
structure Ck(B:Nat)(w w':World):Prop where
 below:Below B w w'
 keep:∀(k:Nat) (cs:Array Value) (t:TypeId) (fz:Nat×Nat),w.heap[k]?=some (.cells cs t fz)->t≠201->t≠101->w'.heap[k]?=w.heap[k]?
theorem Ck.refl(B:Nat)(w:World):Ck B w w:=⟨Below.refl _ _,fun _ _ _ _ _ _ _=>rfl⟩
theorem Ck.trans{a b c:World}(h:Ck B a b)(k:Ck B b c):Ck B a c:=
 ⟨h.below.trans k.below,fun i cs t fz hi h1 h2=>(k.keep i cs t fz ((h.keep i cs t fz hi h1 h2).trans hi) h1 h2).trans (h.keep i cs t fz hi h1 h2)⟩
theorem Ck.of_below(h:Below w.heap.size w w')(hB:B<=w.heap.size):Ck B w w':=
 ⟨h.mono hB,fun k _ _ _ hk _ _=>h.block k (Array.getElem?_eq_some_iff.1 hk).1⟩
structure EnAt(w:World)(B g:Nat)(S:List Pl.Src)(N:List ByteArray)(pv:Nat->Value)(RL:Nat->List Rm)(vp ve:Value)(E:List Pl.Et):Prop where
 tp:TpAt w B g S N pv RL vp ve
 ends:w.ownsRow B 201 17 ve E.length (qho E)
theorem EnAt.kept{g:Nat}{S:List Pl.Src}{pv:Nat->Value}{RL:Nat->List Rm}{vp ve:Value}{E:List Pl.Et}(h:EnAt w B g S N pv RL vp ve E)(hb:Below w.heap.size w w'):EnAt w' B g S N pv RL vp ve E:=
 ⟨h.tp.kept hb,qac h.ends fun k hk=>hb.block k (h.ends.lt k hk).2⟩
theorem qkc(B:Nat)(vW:Value)(W:List Pl.Vt)(n:Nat)(x:Pl.Sx)(w:World)(hl:W.length<=1000000000000)(h:w.ownsRow B 143 10 vW W.length (qch W))(hW:∀u∈W,Pl.Cm u.2)(hx:Pl.Cm x) :
  Calls Tryz.prog 57 #[vW,qfc n x.view] w fun e w'=>(∃b:Bool,e=.returned (.bool b)/\(b=true↔(n,x)∈W))/\Below w.heap.size w w':=by
 by_cases h0:W.length=0
 ·have e:W=[]:=List.eq_nil_of_length_eq_zero h0
  subst e;rcases h.2 with⟨rfl,_⟩|⟨g,cap,cur,rfl,_,hg,_⟩
  ·refine(qwf n x.view w).mono ?_
   rintro e w' ⟨rfl,hb⟩;exact⟨⟨false,rfl,by simp⟩,hb⟩
  ·refine(qn7 g cap [] n x.view w (Nat.zero_le _) ⟨fun i y hy=>by simp at hy,(Array.getElem?_eq_some_iff.1 hg).1⟩).mono ?_
   rintro e w' ⟨⟨b,rfl,hb⟩,ha⟩;exact⟨⟨b,rfl,hb.trans (by simp)⟩,ha⟩
 obtain⟨g,cap,rfl,_,Ha⟩:=qaj h (by omega);have hv:VisAt w g (W.map fun u=>((u.1:Int),u.2.view)):=by
  refine⟨fun i y hy j v hj=>?_,Ha⟩;rw[List.getElem?_map]at hy;obtain⟨u,hu,rfl⟩:=Option.map_eq_some_iff.1 hy;have hc:=qqc W i u hu j v hj;have hi:=(List.getElem?_eq_some_iff.1 hc).1;rw[qkb]at hi;rw[World.ownsRow.cellAt h (i*10+j) hi];exact hc
 have:=qn7 g cap _ n x.view w (by rw[List.length_map];exact hl) hv;rw[List.length_map]at this;refine this.mono ?_;rintro e w' ⟨⟨b,rfl,hb⟩,ha⟩;exact⟨⟨b,rfl,hb.trans (Pl.zaw hW hx)⟩,ha⟩
theorem q3o(g:Nat)(vp:Value)(x:ByteArray)(w:World)(hv:vp=.slice none 0 0\/∃a c,vp=.slice (some a) 0 c)(h:w.cell? ⟨g,1,none⟩=some vp) :
  Calls Tryz.prog 56 #[.pointer (some ⟨g,0,none⟩),.string x] w fun e w'=>e=.returned (.int .i64 (-1))/\w'=w:=by
 rcases hv with rfl|⟨a,c,rfl⟩
 all_goals
  go_enter Tryz.func56,Tryz.ntmps56
  go_wp2_with fail
  go_loopw [5] (fun i wr=>i=.int .i64 0/\wr=w) (fun _ _=>0)
  case atStart=>exact⟨rfl,rfl⟩
  case round=>
   obtain⟨rfl,rfl⟩:=hrel;go_wp2_with fail
   go_ret
   exact⟨rfl,rfl⟩
theorem qxq{x:ByteArray}{r:Int}(h:qtm x N r):(r=-1/\Pl.qb6 (N.map fun y=>y.data.toList) x.data.toList=none)\/∃k:Nat,r=k/\Pl.qb6 (N.map fun y=>y.data.toList) x.data.toList=some k:=by
 have hi:∀(a b:ByteArray),a.data.toList=b.data.toList->a=b:=fun a b e=>ByteArray.ext (Array.toList_inj.1 e);rcases h with⟨k,rfl,hk,ha⟩|⟨rfl,Ha⟩
 ·right
  refine⟨k,rfl,?_⟩;unfold Pl.qb6;rw[List.findIdx?_eq_some_iff_getElem];have hb:=(List.getElem?_eq_some_iff.1 hk);obtain⟨hl,he⟩:=hb;refine⟨by rw[List.length_map];exact hl,by simp[he],fun j hj=>?_⟩;simp only[List.getElem_map,beq_iff_eq];intro e;exact ha j hj (by rw[List.getElem?_eq_getElem (by omega),hi _ _ e])
 ·left
  refine⟨rfl,?_⟩;unfold Pl.qb6;rw[List.findIdx?_eq_none_iff];intro y hy;obtain⟨z,hz,rfl⟩:=List.mem_map.1 hy;simp only[beq_eq_false_iff_ne];intro e;obtain⟨j,hj,rfl⟩:=List.getElem_of_mem hz;exact Ha j (by rw[List.getElem?_eq_getElem hj,hi _ _ e])
theorem qsd(x:ByteArray){w:World}{B g:Nat}{S:List Pl.Src}{N:List ByteArray}{pv:Nat->Value}{RL:Nat->List Rm}{vp ve:Value}(h:TpAt w B g S N pv RL vp ve)(hN:N.length<=100000) :
  Calls Tryz.prog 56 #[.pointer (some ⟨g,0,none⟩),.string x] w fun e w'=>(∃r:Int,e=.returned (.int .i64 r)/\((r=-1/\Pl.qb6 (N.map fun y=>y.data.toList) x.data.toList=none)\/∃k:Nat,r=k/\Pl.qb6 (N.map fun y=>y.data.toList) x.data.toList=some k))/\w'=w:=by
 have h1:=qaa h.blk 1 _ rfl;by_cases h0:N.length=0
 ·have e:N=[]:=List.eq_nil_of_length_eq_zero h0
  subst e;refine(q3o g vp x w ?_ h1).mono ?_
  ·rcases h.parts.2 with ⟨e,_⟩ | ⟨g',cap,cur,e,_⟩
   ·exact .inl e
   ·exact .inr ⟨_,_,e⟩
  ·rintro e w' ⟨rfl,hw⟩
   exact⟨⟨-1,rfl,.inl ⟨rfl,rfl⟩⟩,hw⟩
 ·obtain⟨b,cap,rfl,_,_⟩:=qaj h.parts (by omega)
  refine(q56 g b N x w hN ⟨⟨cap,h1⟩,fun i y hy=>?_⟩).mono ?_
  ·have hc:=(qht pv N 1 i y hy).1
   have hi:=(List.getElem?_eq_some_iff.1 hc).1;rw[qgv]at hi;rw[World.ownsRow.cellAt h.parts (i*2) hi];exact hc
  ·rintro e w' ⟨⟨r,rfl,hr⟩,hw⟩
   exact⟨⟨r,rfl,qxq hr⟩,hw⟩
variable{w0 wr w' w:World}{W R:List Pl.Vt}{vW ve':Value}{p':Pl.Sp}{E' E:List Pl.Et}{g r r' n i:Nat}{x x':Pl.Sx}{P:List Pl.Pt}{pre:List Pl.It}
structure Sk where
 B:Nat
 g:Nat
 S:List Pl.Src
 N:List ByteArray
 pv:Nat->Value
 RL:Nat->List Rm
 vp:Value
def Sk.nm(K:Sk):List (List UInt8):=K.N.map fun y=>y.data.toList
def Sk.bd(K:Sk)(n:Nat):List Pl.It:=Pl.its K.nm (Pl.qab K.S (n+1))
structure SkOk(K:Sk):Prop where
 six:K.N.length<=6
 len:K.S.length=K.N.length+1
 ok:SrcsOk K.S
abbrev Sk.at_(K:Sk)(w:World)(ve:Value)(E:List Pl.Et):Prop:=EnAt w K.B K.g K.S K.N K.pv K.RL K.vp ve E
structure EdP(K:Sk)(R:List Pl.Vt)(w w':World)(E:List Pl.Et)(W:List Pl.Vt)(n:Nat)(x:Pl.Sx)(r more:Nat)(p':Pl.Sp)(ok:Bool)(ve':Value)(E':List Pl.Et)(r':Nat):Prop where
 at_:K.at_ w' ve' E'
 inv:Pl.EInv K.bd R r' E' W
 sp:Pl.SpOk r' p'
 len:E.length<=E'.length
 up:r<=r'
 le:r'<=r+4000000*(E'.length - E.length)+more
 yes:ok=true->∃y,Pl.Done K.bd n x y/\Pl.ParX y p'/\Pl.Cm y
 no:ok=false->∀y,¬Pl.Done K.bd n x y
 ck:Ck K.B w w'
def EdO(K:Sk)(R:List Pl.Vt)(w:World)(E:List Pl.Et)(W:List Pl.Vt)(n:Nat)(x:Pl.Sx)(r more:Nat)(e:Ending)(w':World):Prop:=
 ∃p' ok ve' E' r',e=.returned (.tuple #[qau p',.bool ok])/\EdP K R w w' E W n x r more p' ok ve' E' r'
def EndC(K:Sk)(R:List Pl.Vt)(k:Nat):Prop:=∀(w:World) (ve vW:Value) (E:List Pl.Et) (W:List Pl.Vt) (n:Nat) (x:Pl.Sx) (p:Pl.Sp) (r:Nat),
 K.at_ w ve E->w.ownsRow K.B 143 10 vW W.length (qch W)->Pl.EInv K.bd R r E W->Pl.Cm x->Pl.ParX x p->Pl.SpOk r p->n<K.N.length->Pl.InS K.bd R (n,x)->(n,x)∉W->(∀u∈W,Pl.Need K.bd u (n,x))->K.B<=w.heap.size ->
 429926418001<=E.length+W.length+k->r+4000000*(429926418001 - (E.length+W.length))<=1900000000000000000 ->
 Calls Tryz.prog 58 #[.pointer (some ⟨K.g,0,none⟩),.int .i64 n,qau p,vW] w fun e w'=>EdO K R w E W n x r 0 e w'
def za3(K:Sk)(R:List Pl.Vt)(k:Nat):Prop:=∀(w:World) (ve vW:Value) (E:List Pl.Et) (W:List Pl.Vt) (n:Nat) (x:Pl.Sx) (p:Pl.Sp) (r:Nat),
 K.at_ w ve E->w.ownsRow K.B 143 10 vW W.length (qch W)->Pl.EInv K.bd R r E W->Pl.Cm x->Pl.ParX x p->Pl.SpOk r p->n<K.N.length->Pl.InS K.bd R (n,x)->(∀u∈W,u=(n,x)\/Pl.Need K.bd u (n,x))->K.B<=w.heap.size ->
 429926418001<=E.length+W.length+k->r+4000000*(429926418002 - (E.length+W.length))<=1900000000000000000 ->
 Calls Tryz.prog 89 #[.pointer (some ⟨K.g,0,none⟩),K.pv (n+1),qau p,vW] w fun e w'=>EdO K R w E W n x r 4000000 e w'
structure Enm(K:Sk)(w0 wr:World)(W:List Pl.Vt)(vW:Value)(p':Pl.Sp)(ve':Value)(E':List Pl.Et):Prop where
 spot:wr.heap[w0.heap.size]?=some (.cells (qag p') 94 (0,0))
 res:wr.heap[w0.heap.size+1]?=some (.cells #[.int .i64 0,.string ⟨#[]⟩,.string ⟨#[]⟩,.string ⟨#[]⟩,.string ⟨#[]⟩,.int .i64 0] 94 (0,0))
 at_:K.at_ wr ve' E'
 wi:wr.ownsRow K.B 143 10 vW W.length (qch W)
 ck:Ck K.B w0 wr
theorem Enm.lt{K:Sk}(h:Enm K w0 wr W vW p' ve' E'):w0.heap.size+1<wr.heap.size:=(lta h.res)
theorem Enm.kept{K:Sk}(h:Enm K w0 wr W vW p' ve' E')(hb:Below wr.heap.size wr w')(hB:K.B<=wr.heap.size):Enm K w0 w' W vW p' ve' E':=by
 have hl:=h.lt;exact⟨(hb.block _ (by omega)).trans h.spot,(hb.block _ hl).trans h.res,h.at_.kept hb,qac h.wi fun q hq=>hb.block q (h.wi.lt q hq).2,h.ck.trans (Ck.of_below hb hB)⟩
theorem Enm.ended{K:Sk}{ve'':Value}{E'':List Pl.Et}(h:Enm K w0 wr W vW p' ve' E')(ha:Ck K.B wr w')(Ha:K.at_ w' ve'' E''):Enm K w0 w' W vW p' ve'' E'':=by
 refine⟨(ha.keep _ _ _ _ h.spot (by decide) (by decide)).trans h.spot,(ha.keep _ _ _ _ h.res (by decide) (by decide)).trans h.res,Ha,qac h.wi fun q hq=>?_,h.ck.trans ha⟩;obtain⟨cur,hc⟩:=qad h.wi q hq;exact ha.keep _ _ _ _ hc (by decide) (by decide)
theorem qci{k:Nat}(hk:k≠g)(v0 v1 v2 v3 v4 v5:Value):(set6 w g v0 v1 v2 v3 v4 v5).heap[k]?=w.heap[k]?:=
 (Below.heap_setCell _ _ _ _ hk).trans ((Below.heap_setCell _ _ _ _ hk).trans ((Below.heap_setCell _ _ _ _ hk).trans ((Below.heap_setCell _ _ _ _ hk).trans ((Below.heap_setCell _ _ _ _ hk).trans (Below.heap_setCell _ _ _ _ hk)))))
theorem qg2{t:TypeId}{u0 u1 u2 u3 u4 u5:Value}(h:w.heap[g]?=some (.cells #[u0,u1,u2,u3,u4,u5] t (0,0)))(v0 v1 v2 v3 v4 v5:Value):(set6 w g v0 v1 v2 v3 v4 v5).heap[g]?=some (.cells #[v0,v1,v2,v3,v4,v5] t (0,0)):=by
 have h1:=heap_setCell_same w g 0 _ _ v0 h;have h2:=heap_setCell_same _ g 1 _ _ v1 h1;have h3:=heap_setCell_same _ g 2 _ _ v2 h2;have h4:=heap_setCell_same _ g 3 _ _ v3 h3;have h5:=heap_setCell_same _ g 4 _ _ v4 h4;exact heap_setCell_same _ g 5 _ _ v5 h5
theorem Enm.set{K:Sk}(h:Enm K w0 wr W vW p' ve' E')(hB:K.B<=w0.heap.size)(q:Pl.Sp):Enm K w0 (set6 wr w0.heap.size (.int .i64 q.mode) (.string ⟨q.tag.toArray⟩) (.string ⟨q.attr.toArray⟩) (.string ⟨q.inside.toArray⟩) (.string ⟨q.run.toArray⟩) (.int .i64 q.far)) W vW q ve' E':=by
 have Ha:∀(k:Nat) (cs:Array Value) (t:TypeId) (fz:Nat×Nat),wr.heap[k]?=some (.cells cs t fz)->t≠94->(set6 wr w0.heap.size (.int .i64 q.mode) (.string ⟨q.tag.toArray⟩) (.string ⟨q.attr.toArray⟩) (.string ⟨q.inside.toArray⟩) (.string ⟨q.run.toArray⟩) (.int .i64 q.far)).heap[k]?=wr.heap[k]?:=fun k cs t fz hk ht=>qci (qae hk h.spot ht) _ _ _ _ _ _;have ha:∀(e:TypeId) (sz n:Nat) (v:Value) (xs:List Value),wr.ownsRow K.B e sz v n xs->e≠94->(set6 wr w0.heap.size (.int .i64 q.mode) (.string ⟨q.tag.toArray⟩) (.string ⟨q.attr.toArray⟩) (.string ⟨q.inside.toArray⟩) (.string ⟨q.run.toArray⟩) (.int .i64 q.far)).ownsRow K.B e sz v n xs:=fun e sz n v xs hv he=>qac hv fun k hk=>by
  obtain⟨cur,hc⟩:=qad hv k hk;exact Ha _ _ _ _ hc he
 refine⟨qg2 h.spot _ _ _ _ _ _,(qci (by omega) _ _ _ _ _ _).trans h.res,⟨⟨(Ha _ _ _ _ h.at_.tp.blk (by decide)).trans h.at_.tp.blk,h.at_.tp.le,ha _ _ _ _ _ h.at_.tp.parts (by decide),fun i s hs=>⟨ha _ _ _ _ _ (h.at_.tp.row i s hs).1 (by decide),(h.at_.tp.row i s hs).2⟩⟩,ha _ _ _ _ _ h.at_.ends (by decide)⟩,ha _ _ _ _ _ h.wi (by decide),qbx h.ck.below hB _ _ _ _ _ _,fun k cs t fz hk h1 h2=>(qci (by have:=(Array.getElem?_eq_some_iff.1 hk).1;omega) _ _ _ _ _ _).trans (h.ck.keep k cs t fz hk h1 h2)⟩
theorem Enm.drew{K:Sk}(h:Enm K w0 wr W vW p' ve' E'):Enm K w0 wr.drew W vW p' ve' E':=
 ⟨h.spot,h.res,⟨h.at_.tp.drew,qac h.at_.ends fun _ _=>rfl⟩,qac h.wi fun _ _=>rfl,h.ck.below.drew,h.ck.keep⟩
structure Enp(K:Sk)(R:List Pl.Vt)(E:List Pl.Et)(W:List Pl.Vt)(n:Nat)(x:Pl.Sx)(r:Nat)(P:List Pl.Pt)(i:Nat)(p':Pl.Sp)(x':Pl.Sx)(E':List Pl.Et)(r':Nat)(pre:List Pl.It):Prop where
 inv:Pl.EInv K.bd R r' E' W
 cm:Pl.Cm x'
 par:Pl.ParX x' p'
 sp:Pl.SpOk r' p'
 via:Pl.Via K.bd pre x x'
 its:K.bd n=pre++Pl.qdq K.nm P i
 le:i<=P.length
 len:E.length<=E'.length
 up:r<=r'
 few:r'<=r+4000000*(E'.length - E.length)+2000*i
theorem qx1{B:Nat->List Pl.It}(h:Pl.EInv B R r E W)(hr:r<=r'):Pl.EInv B R r' E W:=⟨fun e he=>(h.each e he).le hr,h.apart,h.wins⟩
theorem Enp.text{K:Sk}(h:Enp K R E W n x r P i p' x' E' r' pre){q:Pl.Pt}(hq:P[i]?=some q)(hk:q.kind=1)(hl:q.text.length<=2000) :
  Enp K R E W n x r P (i+1) (Pl.qda p' q.text) (Pl.qav x' q.text) E' (r'+q.text.length) (pre++[.tx q.text]):=by
 have h1:=(List.getElem?_eq_some_iff.1 hq).1;have:=h.few;have:=h.up;exact⟨qx1 h.inv (by omega),Pl.qtb _ _ h.cm,Pl.qpe _ _ _ h.cm.fit.fit.ok h.par,Pl.spFromOk _ _ _ h.sp,Pl.qfb h.via (Pl.q2i _ _ _),by rw[h.its,Pl.qi9 hq hk,List.append_assoc];rfl,by omega,h.len,by omega,by omega⟩
theorem Enp.hole{K:Sk}(h:Enp K R E W n x r P i p' x' E' r' pre){q:Pl.Pt}(hq:P[i]?=some q)(hk:q.kind=2) :
  Enp K R E W n x r P (i+1) p'.behindHole x'.behindHole E' r' (pre++[.ho]):=by
 have h1:=(List.getElem?_eq_some_iff.1 hq).1;have:=h.few;refine⟨h.inv,Pl.qyb h.cm,Pl.qfl _ _ h.cm.fit.fit.ok h.par,?_,Pl.qfb h.via (Pl.q2j _ _),by rw[h.its,Pl.qja hq hk,List.append_assoc];rfl,by omega,h.len,h.up,by omega⟩;unfold Pl.Sp.behindHole;split
 ·exact⟨h.sp.mode,h.sp.tag,h.sp.attr,h.sp.inside,h.sp.run⟩
 ·exact h.sp
theorem Enp.over{K:Sk}(h:Enp K R E W n x r P i p' x' E' r' pre){j:Nat}(hj:i<=j)(hl:j<P.length)(he:Pl.qdq K.nm P i=Pl.qdq K.nm P (j+1)) :
  Enp K R E W n x r P (j+1) p' x' E' r' pre:=by
 have:=h.few;exact⟨h.inv,h.cm,h.par,h.sp,h.via,by rw[h.its,he],by omega,h.len,h.up,by omega⟩
theorem Enp.call{K:Sk}(h:Enp K R E W n x r P i p' x' E' r' pre){q:Pl.Pt}(hq:P[i]?=some q)(hk:q.kind=6){m:Nat}(hn:Pl.qb6 K.nm q.text=some m)
  {p5:Pl.Sp} {y:Pl.Sx} {E5:List Pl.Et} {r5:Nat} (hd:Pl.Done K.bd m x' y) (hp:Pl.ParX y p5) (hc:Pl.Cm y) (hi:Pl.EInv K.bd R r5 E5 W) (hs:Pl.SpOk r5 p5) (hl:E'.length<=E5.length) (hu:r'<=r5) (hr:r5<=r'+4000000*(E5.length - E'.length)+0) :
  Enp K R E W n x r P (i+1) p5 y E5 r5 (pre++[.ca m]):=by
 have h1:=(List.getElem?_eq_some_iff.1 hq).1;have:=h.few;have:=h.len;have:=h.up;exact⟨hi,hc,hp,hs,Pl.qfb h.via (Pl.qto hd),by rw[h.its,Pl.qgr hq hk hn,List.append_assoc];rfl,by omega,by omega,by omega,by omega⟩
theorem qsw{N:List (List UInt8)}{x:List UInt8}{m:Nat}(h:Pl.qb6 N x=some m):m<N.length:=by
 unfold Pl.qb6 at h;rw[List.findIdx?_eq_some_iff_getElem]at h;exact h.1
theorem Enp.named{K:Sk}(h:Enp K R E W n x r P i p' x' E' r' pre){q:Pl.Pt}(hq:P[i]?=some q)(hk:q.kind=6){m:Nat}(hn:Pl.qb6 K.nm q.text=some m)(hP:K.bd n=Pl.its K.nm P)(hl:P.length<=2000)(h6:K.N.length<=6)(ha:Pl.InS K.bd R (n,x))(hx:Pl.Cm x) :
  m<K.N.length/\Pl.InS K.bd R (m,x')/\Pl.Need K.bd (n,x) (m,x'):=by
 have hm:m<K.N.length:=by
  have:=qsw hn;unfold Sk.nm at this
  rwa [List.length_map]at this
 have he:K.bd n=pre++.ca m::Pl.qdq K.nm P (i+1):=by rw[h.its,Pl.qgr hq hk hn]
 refine⟨hm,Pl.q9j (k:=pre.length) ha hx.fit ?_ ⟨?_,?_⟩ (by show m<6;omega) h.cm.fit.fit.ok.st.name,Pl.qxd he h.via⟩
 ·show (K.bd n).length<=2000
  rw[hP];exact Nat.le_trans (Pl.qlk _ _ _ _) hl
 ·show (K.bd n)[pre.length]?=_
  rw[he,List.getElem?_append_right (Nat.le_refl _),Nat.sub_self];rfl
 ·show Pl.Via K.bd ((K.bd n).take pre.length) x x'
  rw[he,List.take_left']
  ·exact h.via
  ·rfl
end Go.Proofs.YtfkhljmiehdgmaaGreatDoor
namespace Go.Proofs.YtfkhljmiehdgmaaGreatDoor
open Go.RowKit Go.Maps
structure VwFit(v:Pl.Vw):Prop where
 i0:(Lit.int .i64 v.mode).wf=true
 i1:(Lit.int .i64 v.elem).wf=true
 i2:(Lit.int .i64 v.attr).wf=true
 i3:(Lit.int .i64 v.ends).wf=true
 i4:(Lit.int .i64 v.esc).wf=true
 i5:(Lit.int .i64 v.pct).wf=true
 i6:(Lit.int .i64 v.link).wf=true
 nm:v.name.length<=9
theorem qet{x:Pl.Sx}(h:Pl.Cm x):VwFit x.view:=by
 obtain⟨h1,h2,h3,h4,h5,h6,h7⟩:=qwo h.fit.fit.ok;have hm:=h.fit.fit.ok.st.hi;have hw:=h.fit.fit.ok.st.wrap;have hh:=h.fit.fit.ok.ma.hex;refine⟨WalkArith.wf_i64 (by show _/\_;unfold Pl.Sx.view;simp only;omega),WalkArith.wf_i64 ?_,WalkArith.wf_i64 ?_,h5,WalkArith.wf_i64 ?_,h7,WalkArith.wf_i64 ?_,h2⟩
 ·have:=Pl.qg4 x.st.elem
  unfold Pl.Sx.view;simp only;omega
 ·unfold Pl.Sx.view;simp only;split<;>omega
 ·unfold Pl.Sx.view;simp only;repeat' split
  all_goals omega
 ·unfold Pl.Sx.view;simp only;unfold Pl.qjd;repeat' split
  all_goals omega
theorem qmn:Tryz.prog.cellsOf 111=9:=by kernel_rfl
theorem qpl:Tryz.prog.cellsOf 143=10:=by kernel_rfl
theorem q2f(d:Nat){v:Pl.Vw}(h:VwFit v):∃l,Tryz.prog.keyLits (d+2) 111 [.int .i64 v.mode,.int .i64 v.elem,.int .i64 v.attr,.int .i64 v.ends,.int .i64 v.esc,.int .i64 v.pct,.int .i64 v.link,.string ⟨v.name.toArray⟩,.bool v.ref]=some l:=by
 have hn:(⟨v.name.toArray⟩:ByteArray).size<=maxLen:=by have:=h.nm;simp[ByteArray.size];unfold maxLen;omega
 unfold Program.keyLits;simp only[Tryz.underlying111];simp[qmn,qjh,qvp,qrf,qus,q7z,q32,h.i0,h.i1,h.i2,h.i3,h.i4,h.i5,h.i6,hn]
theorem q7r{n:Nat}{v:Pl.Vw}(h:VwFit v)(hn:n<=100):∃l,keyOf Tryz.prog 143 (qfc n v)=some l:=by
 obtain⟨d,hs⟩:∃d,Tryz.prog.types.size+1=(d+2)+1:=⟨Tryz.prog.types.size - 2,by
  have:4<=Tryz.prog.types.size:=by decide +kernel
  omega⟩
 obtain⟨l,hl⟩:=q2f d h;have hk:Tryz.prog.keyType 143=true:=by kernel_rfl
 have Ha:(qfc n v).formed Tryz.prog 143=true:=by
  unfold qfc Value.formed;simp[Tryz.underlying143,qpl]
 unfold keyOf;simp only[Tryz.underlying143];rw[hk,Ha,hs];unfold Program.keyLits;simp only[Tryz.underlying143];have ha:(Lit.int .i64 (n:Int)).wf=true:=WalkArith.wf_i64 (by omega);unfold qfc;simp[Value.cells,qpl,qmn,qjh,qus,ha,hl]
theorem q2k{n m:Nat}{v u:Pl.Vw}(h:qfc n v=qfc m u):n=m/\v=u:=by
 obtain⟨a,b,c,d,e,f,g,nm,r⟩:=v;obtain⟨a',b',c',d',e',f',g',nm',r'⟩:=u;unfold qfc at h;simp only[Value.agg.injEq,Array.mk.injEq,List.cons.injEq,Value.int.injEq,true_and,Value.string.injEq,Value.bool.injEq,and_true,ByteArray.mk.injEq]at h;obtain⟨h0,h1,h2,h3,h4,h5,h6,h7,h8,h9⟩:=h;have ha:nm=nm':=by simpa using h8
 subst h1 h2 h3 h4 h5 h6 h7 ha h9;exact⟨by omega,rfl⟩
theorem qyp(w:World){n m:Nat}{v u:Pl.Vw}(hv:VwFit v)(hu:VwFit u)(hn:n<=100)(hm:m<=100){b:Bool}(hb:b=true↔(n=m/\v=u)):(Op.equal 143 (qfc n v) (qfc m u)).run Tryz.prog w=.ok b w:=by
 obtain⟨lx,h1⟩:=q7r hv hn;obtain⟨ly,h2⟩:=q7r hu hm;obtain⟨r,hr,ha⟩:=run_equal_deep w (m:=4) (by decide) (by kernel_rfl) (by kernel_rfl) h1 h2;rw[hr];have:r=b:=by
  rw[Bool.eq_iff_iff,ha,hb];constructor
  ·intro e
   exact q2k (keyOf_inj_deep (m:=4) (k:=143) (by kernel_rfl) (by kernel_rfl) h1 (by rw[h2,e]))
  ·rintro⟨rfl,rfl⟩
   rw[h1]at h2;exact Option.some.inj h2
 rw[this]
theorem qqd(w:World)(n m:Nat)(v u:Pl.Vw)(o1 o2:Operand):(eqGuard .eql 143 o1 o2 (qfc n v) (qfc m u)).run Tryz.prog w=.ok () w:=by
 have:Tryz.prog.eqGuardType Tryz.prog.depth 143=false:=by kernel_rfl
 unfold eqGuard qfc;simp[run_program,this]
theorem q7s(w:World){n m:Nat}{v u:Pl.Vw}(hv:VwFit v)(hu:VwFit u)(hn:n<=100)(hm:m<=100){b:Bool}(hb:b=true↔(n=m/\v=u)):(binOp .eql 143 (qfc n v) (qfc m u)).run Tryz.prog w=.ok (.bool b) w:=by
 have h:=qyp w hv hu hn hm hb;unfold binOp qfc;unfold qfc at h;simp[h]
theorem qqe(w:World){n m:Nat}{v u:Pl.Vw}(hv:VwFit v)(hu:VwFit u)(hn:n<=100)(hm:m<=100){b:Bool}(hb:b=true↔(n=m/\v=u)):(Op.equalIn 10000 143 (qfc n v) (qfc m u)).run Tryz.prog w=.ok b w:=by
 have h:=qyp w hv hu hn hm hb;unfold qfc at h |-;simpa [Op.equal,Op.maxDepth]using h
theorem q7q{v:Pl.Vw}(h:VwFit v):∃l,keyOf Tryz.prog 111 (qep v)=some l:=by
 obtain⟨d,hs⟩:∃d,Tryz.prog.types.size+1=d+2:=⟨Tryz.prog.types.size - 1,by
  have:4<=Tryz.prog.types.size:=by decide +kernel
  omega⟩
 obtain⟨l,hl⟩:=q2f d h;have hk:Tryz.prog.keyType 111=true:=by kernel_rfl
 have ha:(qep v).formed Tryz.prog 111=true:=by
  unfold qep qcv Value.formed;simp[Tryz.underlying111,qmn]
 unfold keyOf;simp only[Tryz.underlying111];rw[hk,ha,hs];unfold qep qcv;simp[Value.cells,hl]
theorem q2g{v u:Pl.Vw}(h:qep v=qep u):v=u:=by
 obtain⟨a,b,c,d,e,f,g,nm,r⟩:=v;obtain⟨a',b',c',d',e',f',g',nm',r'⟩:=u;unfold qep qcv at h;simp only[Value.agg.injEq,Array.mk.injEq,List.cons.injEq,Value.int.injEq,true_and,Value.string.injEq,Value.bool.injEq,and_true,ByteArray.mk.injEq]at h;obtain⟨h1,h2,h3,h4,h5,h6,h7,h8,h9⟩:=h;have ha:nm=nm':=by simpa using h8
 subst h1 h2 h3 h4 h5 h6 h7 ha h9;rfl
theorem qyn(w:World){v u:Pl.Vw}(hv:VwFit v)(hu:VwFit u){b:Bool}(hb:b=true↔v=u):(Op.equal 111 (qep v) (qep u)).run Tryz.prog w=.ok b w:=by
 obtain⟨lx,h1⟩:=q7q hv;obtain⟨ly,h2⟩:=q7q hu;obtain⟨r,hr,ha⟩:=run_equal_deep w (m:=4) (by decide) (by kernel_rfl) (by kernel_rfl) h1 h2;rw[hr];have:r=b:=by
  rw[Bool.eq_iff_iff,ha,hb];constructor
  ·intro e
   exact q2g (keyOf_inj_deep (m:=4) (k:=111) (by kernel_rfl) (by kernel_rfl) h1 (by rw[h2,e]))
  ·rintro rfl
   rw[h1]at h2;exact Option.some.inj h2
 rw[this]
theorem qlz(w:World)(v u:Pl.Vw)(o1 o2:Operand):(eqGuard .neq 111 o1 o2 (qep v) (qep u)).run Tryz.prog w=.ok () w:=by
 have:Tryz.prog.eqGuardType Tryz.prog.depth 111=false:=by kernel_rfl
 unfold eqGuard qep;simp[run_program,this]
theorem qym(w:World){v u:Pl.Vw}(hv:VwFit v)(hu:VwFit u){b:Bool}(hb:b=true↔v=u):(binOp .neq 111 (qep v) (qep u)).run Tryz.prog w=.ok (.bool (!b)) w:=by
 have h:=qyn w hv hu hb;unfold binOp qep;unfold qep at h;simp[h]
theorem qjn(w:World){v u:Pl.Vw}(hv:VwFit v)(hu:VwFit u){b:Bool}(hb:b=true↔v=u):(Op.equalIn 10000 111 (qep v) (qep u)).run Tryz.prog w=.ok b w:=by
 have h:=qyn w hv hu hb;unfold qep at h |-;simpa [Op.equal,Op.maxDepth]using h
section
variable {P:Program}{ops:Array Oper}{Q:Exit->Act->World->Prop}
end
theorem qya(HB:qg9):qz0:=by
 intro T v L w hA ht hm hR Hi;have h1:=fun w1 (hb:Below w.heap.size w w1)=>q6f HB T v L w1 (hA.kept hb) (ht.kept hb) (hm.below hb) hR Hi;have hn:=q3y T L;generalize Pl.qe9 T.data.toList (qaq L)=q at h1 hn |-;obtain⟨q1,f⟩:=q;simp only at h1 hn |-;have H1:=hd h1;have HN:=hd hn;clear h1 hn hA ht hm hR Hi;have HR:Hid ((w.alloc (.cells #[.int .i64 0,.int .i64 0,.string ⟨#[]⟩,.int .i64 0] 31)).heap[w.heap.size]?=some (.cells #[.int .i64 0,.int .i64 0,.string ⟨#[]⟩,.int .i64 0] 31 (0,0))):=heap_alloc_new _ _;have He:Hid (Below w.heap.size w (w.alloc (.cells #[.int .i64 0,.int .i64 0,.string ⟨#[]⟩,.int .i64 0] 31))):=ba _;go_enter Tryz.func12,Tryz.ntmps12
 go_wp2_with fail
 refine(H1.out _ He.out).mono ?_;rintro ed w2 ⟨⟨ao,n,cap,rfl,hx⟩,hb⟩;rw[qio];have HX:=hd hx;have hg:=(show Hid _ from(hb.block w.heap.size (by simp)).trans HR.out);have Hf:=hd (He.out.trans (hb.mono He.out.size));clear hx hb HR He H1;have Hc:w.heap.size<w2.heap.size:=(Array.getElem?_eq_some_iff.1 hg.out).1;by_cases hc:f.code=0
 rotate_left
 ·have Hk:((f.code:Int) != 0)=true:=by rw[bne_iff_ne];omega
  have HC:=hd hc;clear hc;go_wp2_with fail
  have Ha:((w2.alloc (.cells #[.slice ao n cap] 77)).alloc (.cells #[.int .i64 (f.code:Nat),.int .i64 f.kind,.string ⟨f.place.toArray⟩,.int .i64 (f.pos:Nat)] 31)).heap[w.heap.size]?=some (.cells #[.int .i64 0,.int .i64 0,.string ⟨#[]⟩,.int .i64 0] 31 (0,0)):=(heap_alloc_old _ _ (by simp;omega)).trans ((heap_alloc_old _ _ Hc).trans hg.out);have Hb:((w2.alloc (.cells #[.slice ao n cap] 77)).alloc (.cells #[.int .i64 (f.code:Nat),.int .i64 f.kind,.string ⟨f.place.toArray⟩,.int .i64 (f.pos:Nat)] 31)).heap[w2.heap.size+1]?=some (.cells #[.int .i64 (f.code:Nat),.int .i64 f.kind,.string ⟨f.place.toArray⟩,.int .i64 (f.pos:Nat)] 31 (0,0)):=qal _ _ _ (by simp);have hj:=(show Hid _ from(Hf.out.alloc Hf.out.size (.cells #[.slice ao n cap] 77)).alloc (by simp;omega) (.cells #[.int .i64 (f.code:Nat),.int .i64 f.kind,.string ⟨f.place.toArray⟩,.int .i64 (f.pos:Nat)] 31));have e1:w2.heap.size+1≠w.heap.size:=by omega
  generalize w2.heap.size+1=E at Hb e1 |-;generalize World.alloc (World.alloc w2 _) _=w4 at Hb Ha hj |-;have x0:=qaa Ha 0 _ rfl;have x1:=qaa Ha 1 _ rfl;have x2:=qaa Ha 2 _ rfl;have x3:=qaa Ha 3 _ rfl;have y0:w4.frozen? ⟨w.heap.size,0,none⟩=false:=by simp[World.frozen?,Ha]
  have y1:w4.frozen? ⟨w.heap.size,1,none⟩=false:=by simp[World.frozen?,Ha]
  have y2:w4.frozen? ⟨w.heap.size,2,none⟩=false:=by simp[World.frozen?,Ha]
  have y3:w4.frozen? ⟨w.heap.size,3,none⟩=false:=by simp[World.frozen?,Ha]
  have l0:=qaa Hb 0 _ rfl;have l1:=qaa Hb 1 _ rfl;have l2:=qaa Hb 2 _ rfl;have l3:=qaa Hb 3 _ rfl;have hl:=hd Ha;clear Hb Ha Hc;go_region
  all_goals
   go_wp2_with fail
   have hf:=qg3 hl.out (.int .i64 (f.code:Nat)) (.int .i64 f.kind) (.string ⟨f.place.toArray⟩) (.int .i64 (f.pos:Nat));have hb:=(((hj.out.setCell (p:=⟨w.heap.size,0,none⟩) (Nat.le_refl _) (.int .i64 (f.code:Nat))).setCell (p:=⟨w.heap.size,1,none⟩) (Nat.le_refl _) (.int .i64 f.kind)).setCell (p:=⟨w.heap.size,2,none⟩) (Nat.le_refl _) (.string ⟨f.place.toArray⟩)).setCell (p:=⟨w.heap.size,3,none⟩) (Nat.le_refl _) (.int .i64 (f.pos:Nat));refine qe0 Tryz.results12 rfl w.heap.size (.pointer none) _ rfl rfl hf _ Tryz.underlying31 rfl (by kernel_rfl) ?_;exact⟨⟨_,rfl,fun _=>rfl,fun q=>absurd q HC.out⟩,hb.drew⟩
 ·have Hk:((f.code:Int) != 0)=false:=by rw[hc];rfl
  have HC:Hid (f=Pl.Ft.none):=HN.out hc;obtain⟨B,F,M,s,h1,h2,h3⟩:=HX.out hc;have Hl:=hd h2;have Hm:=hd h3;have Hn:Hid (w.heap.size<=B):=Nat.le_trans (by simp) h1;have ha:∀o o' o'',(((w2.alloc o).alloc o').alloc o'').heap[w.heap.size]?=some (.cells #[.int .i64 0,.int .i64 0,.string ⟨#[]⟩,.int .i64 0] 31 (0,0)):=fun o o' o''=>(heap_alloc_old _ _ (by simp;omega)).trans ((heap_alloc_old _ _ (by simp;omega)).trans ((heap_alloc_old _ _ Hc).trans hg.out));have x0:=fun o o' o''=>qaa (ha o o' o'') 0 _ rfl;have x1:=fun o o' o''=>qaa (ha o o' o'') 1 _ rfl;have x2:=fun o o' o''=>qaa (ha o o' o'') 2 _ rfl;have x3:=fun o o' o''=>qaa (ha o o' o'') 3 _ rfl;have y0:∀o o' o'',(((w2.alloc o).alloc o').alloc o'').frozen? ⟨w.heap.size,0,none⟩=false:=fun o o' o''=>by simp[World.frozen?,ha o o' o'']
  have y1:∀o o' o'',(((w2.alloc o).alloc o').alloc o'').frozen? ⟨w.heap.size,1,none⟩=false:=fun o o' o''=>by simp[World.frozen?,ha o o' o'']
  have y2:∀o o' o'',(((w2.alloc o).alloc o').alloc o'').frozen? ⟨w.heap.size,2,none⟩=false:=fun o o' o''=>by simp[World.frozen?,ha o o' o'']
  have y3:∀o o' o'',(((w2.alloc o).alloc o').alloc o'').frozen? ⟨w.heap.size,3,none⟩=false:=fun o o' o''=>by simp[World.frozen?,ha o o' o'']
  have ho:=hd ha;have Ho:=hd Hc;clear hc h1 h2 h3 HX ha Hc;go_wp2_with fail
  have Hg:=((((Below.refl w2.heap.size w2).alloc (Nat.le_refl _) (.cells #[.slice ao n cap] 77)).alloc (by simp) (.cells #[.int .i64 (f.code:Nat),.int .i64 f.kind,.string ⟨f.place.toArray⟩,.int .i64 (f.pos:Nat)] 31)).alloc (by simp;omega) (.cells #[.slice ao n cap] 81));have hi:=qal ((w2.alloc (.cells #[.slice ao n cap] 77)).alloc (.cells #[.int .i64 (f.code:Nat),.int .i64 f.kind,.string ⟨f.place.toArray⟩,.int .i64 (f.pos:Nat)] 31)) (.cells #[.slice ao n cap] 81) (w2.heap.size+1+1) (by simp);have ha:=ho.out (.cells #[.slice ao n cap] 77) (.cells #[.int .i64 (f.code:Nat),.int .i64 f.kind,.string ⟨f.place.toArray⟩,.int .i64 (f.pos:Nat)] 31) (.cells #[.slice ao n cap] 81);have Hj:=Hl.out.below Hg;have hk:=Hf.out.trans (Hg.mono Hf.out.size);have he:w2.heap.size+1+1≠w.heap.size:=by have:=Ho.out;omega
  clear Hg x0 x1 x2 x3 y0 y1 y2 y3;generalize w2.heap.size+1+1=G at hi he |-;generalize World.alloc (World.alloc (World.alloc w2 _) _) _=w5 at hi ha Hj hk |-;have hf:=qg3 ha (.int .i64 0) (.int .i64 0) (.string ⟨#[]⟩) (.int .i64 0);have hv:=Hj.fault4 ha (.int .i64 0) (.int .i64 0) (.string ⟨#[]⟩) (.int .i64 0);have hb:=(((hk.setCell (p:=⟨w.heap.size,0,none⟩) (Nat.le_refl _) (.int .i64 0)).setCell (p:=⟨w.heap.size,1,none⟩) (Nat.le_refl _) (.int .i64 0)).setCell (p:=⟨w.heap.size,2,none⟩) (Nat.le_refl _) (.string ⟨#[]⟩)).setCell (p:=⟨w.heap.size,3,none⟩) (Nat.le_refl _) (.int .i64 0);have ht:((((w5.setCell ⟨w.heap.size,0,none⟩ (.int .i64 0)).setCell ⟨w.heap.size,1,none⟩ (.int .i64 0)).setCell ⟨w.heap.size,2,none⟩ (.string ⟨#[]⟩)).setCell ⟨w.heap.size,3,none⟩ (.int .i64 0)).heap[G]?=_:=(Below.heap_setCell _ _ _ _ he).trans ((Below.heap_setCell _ _ _ _ he).trans ((Below.heap_setCell _ _ _ _ he).trans ((Below.heap_setCell _ _ _ _ he).trans hi)));refine qe0 Tryz.results12 rfl w.heap.size (.pointer (some ⟨G,0,none⟩)) _ rfl rfl hf _ Tryz.underlying31 rfl (by kernel_rfl) ?_;refine⟨⟨_,by rw[HC.out];rfl,fun q=>absurd (by rw[HC.out];rfl) q,fun _=>⟨G,F,.slice ao n cap,M,s,B,rfl,?_,Hn.out,hv,Hm.out⟩⟩,hb⟩;exact ht
end Go.Proofs.YtfkhljmiehdgmaaGreatDoor
