/-
  Steps of the proof.
-/
import Derived.ScopeJumps
import Derived.WalkMore
import Derived.Test.YtfkhljmiehdgmaaGreatDoorCmAI
set_option maxRecDepth 100000
set_option maxHeartbeats 40000000
namespace Go.Proofs.YtfkhljmiehdgmaaGreatDoor
open Go.RowKit
def qfl(w:World)(g:Nat):Prop:=∃cs t,w.heap[g]?=some (.cells cs t (0,0))∧cs.size=6
theorem qfl.lt{w:World}{g:Nat}(h:qfl w g):g<w.heap.size:=by
 obtain⟨cs,t,h,_⟩:=h;exact(Array.getElem?_eq_some_iff.1 h).1
theorem qfl.kept{w w':World}{g B:Nat}(h:qfl w g)(hb:Below B w w')(hB:g<B):qfl w' g:=by
 obtain⟨cs,t,h,hs⟩:=h;exact⟨cs,t,(hb.block g hB).trans h,hs⟩
theorem qfl.alloc{w:World}{g:Nat}(h:qfl w g)(o:Obj):qfl (w.alloc o) g:=h.kept ((Below.refl _ w).alloc (Nat.le_refl _) o) h.lt
theorem qfl.drew{w:World}{g:Nat}(h:qfl w g):qfl w.drew g:=h
theorem qof(w:World)(g:Nat)(cs:Array Value)(t:TypeId)(hg:w.heap.size=g)(hs:cs.size=6):qfl (w.alloc (.cells cs t)) g:=by
 subst hg;exact⟨cs,t,heap_alloc_new w _,hs⟩
theorem qfl.cell{w:World}{g:Nat}(h:qfl w g)(j:Nat)(hj:j<6):∃v,w.cell? ⟨g,j,none⟩=some v:=by
 obtain⟨cs,t,h,hs⟩:=h;exact⟨cs[j],by rw[cell_of_row w g j cs t _ h,Array.getElem?_eq_getElem (by omega)]⟩
theorem qfl.thaw{w:World}{g:Nat}(h:qfl w g)(j:Nat):w.frozen? ⟨g,j,none⟩=false:=by
 obtain⟨cs,t,h,hs⟩:=h;simp[World.frozen?,h]
def set6(w:World)(g:Nat)(v0 v1 v2 v3 v4 v5:Value):World:=(((((w.setCell ⟨g,0,none⟩ v0).setCell ⟨g,1,none⟩ v1).setCell ⟨g,2,none⟩ v2).setCell ⟨g,3,none⟩ v3).setCell ⟨g,4,none⟩ v4).setCell ⟨g,5,none⟩ v5
theorem qjx{w:World}{g:Nat}(h:qfl w g)(v0 v1 v2 v3 v4 v5:Value):∀(j:Nat) (v:Value),(#[v0,v1,v2,v3,v4,v5]:Array Value).toList[j]?=some v→(set6 w g v0 v1 v2 v3 v4 v5).cell? ⟨g,j,none⟩=some v:=by
 intro j v hv
 match j,hv with
 | 0,hv=>
   obtain⟨u,hu⟩:=h.cell 0 (by omega);obtain rfl:v0=v:=by simpa using hv
   exact(World.cell?_setCell_other _ _ _ _ (by simp)).trans ((World.cell?_setCell_other _ _ _ _ (by simp)).trans ((World.cell?_setCell_other _ _ _ _ (by simp)).trans ((World.cell?_setCell_other _ _ _ _ (by simp)).trans ((World.cell?_setCell_other _ _ _ _ (by simp)).trans (World.cell?_setCell_same _ _ _ (u:=u) (hu))))))
 | 1,hv=>
   obtain⟨u,hu⟩:=h.cell 1 (by omega);obtain rfl:v1=v:=by simpa using hv
   exact(World.cell?_setCell_other _ _ _ _ (by simp)).trans ((World.cell?_setCell_other _ _ _ _ (by simp)).trans ((World.cell?_setCell_other _ _ _ _ (by simp)).trans ((World.cell?_setCell_other _ _ _ _ (by simp)).trans (World.cell?_setCell_same _ _ _ (u:=u) ((World.cell?_setCell_other _ _ _ _ (by simp)).trans (hu))))))
 | 2,hv=>
   obtain⟨u,hu⟩:=h.cell 2 (by omega);obtain rfl:v2=v:=by simpa using hv
   exact(World.cell?_setCell_other _ _ _ _ (by simp)).trans ((World.cell?_setCell_other _ _ _ _ (by simp)).trans ((World.cell?_setCell_other _ _ _ _ (by simp)).trans (World.cell?_setCell_same _ _ _ (u:=u) ((World.cell?_setCell_other _ _ _ _ (by simp)).trans ((World.cell?_setCell_other _ _ _ _ (by simp)).trans (hu))))))
 | 3,hv=>
   obtain⟨u,hu⟩:=h.cell 3 (by omega);obtain rfl:v3=v:=by simpa using hv
   exact(World.cell?_setCell_other _ _ _ _ (by simp)).trans ((World.cell?_setCell_other _ _ _ _ (by simp)).trans (World.cell?_setCell_same _ _ _ (u:=u) ((World.cell?_setCell_other _ _ _ _ (by simp)).trans ((World.cell?_setCell_other _ _ _ _ (by simp)).trans ((World.cell?_setCell_other _ _ _ _ (by simp)).trans (hu))))))
 | 4,hv=>
   obtain⟨u,hu⟩:=h.cell 4 (by omega);obtain rfl:v4=v:=by simpa using hv
   exact(World.cell?_setCell_other _ _ _ _ (by simp)).trans (World.cell?_setCell_same _ _ _ (u:=u) ((World.cell?_setCell_other _ _ _ _ (by simp)).trans ((World.cell?_setCell_other _ _ _ _ (by simp)).trans ((World.cell?_setCell_other _ _ _ _ (by simp)).trans ((World.cell?_setCell_other _ _ _ _ (by simp)).trans (hu))))))
 | 5,hv=>
   obtain⟨u,hu⟩:=h.cell 5 (by omega);obtain rfl:v5=v:=by simpa using hv
   exact World.cell?_setCell_same _ _ _ (u:=u) ((World.cell?_setCell_other _ _ _ _ (by simp)).trans ((World.cell?_setCell_other _ _ _ _ (by simp)).trans ((World.cell?_setCell_other _ _ _ _ (by simp)).trans ((World.cell?_setCell_other _ _ _ _ (by simp)).trans ((World.cell?_setCell_other _ _ _ _ (by simp)).trans (hu))))))
 | j+6,hv=>simp at hv
theorem qbx{B:Nat}{a w:World}{g:Nat}(h:Below B a w)(hg:B≤g)(v0 v1 v2 v3 v4 v5:Value):Below B a (set6 w g v0 v1 v2 v3 v4 v5):=
 (((((h.setCell (p:=⟨g,0,none⟩) hg v0).setCell (p:=⟨g,1,none⟩) hg v1).setCell (p:=⟨g,2,none⟩) hg v2).setCell (p:=⟨g,3,none⟩) hg v3).setCell (p:=⟨g,4,none⟩) hg v4).setCell (p:=⟨g,5,none⟩) hg v5
theorem qfi{P:Program}{fn:Func}{R:Ending→World→Prop}{a:Act}{w:World}{p:Tmp}{ty:TypeId}(h:fn.results=#[.cell p ty])(g:Nat)(d:TypeDesc)(hu:P.underlying ty=some d)(hd:aggD d=true)(hi:(P.info? ty).map (·.size)=some 6)
  (hp:a.tmps.getD p undef=.pointer (some ⟨g,0,none⟩)) (hs:qfl w g) (ha:a.defers=[]) (v0 v1 v2 v3 v4 v5:Value) (hR:R (.returned (.agg #[v0,v1,v2,v3,v4,v5])) (set6 w g v0 v1 v2 v3 v4 v5)):bodyPost P fn R .ret a (set6 w g v0 v1 v2 v3 v4 v5):=
 bodyPost_ret (qbk h a.tmps _ g _ d hp (qjx hs v0 v1 v2 v3 v4 v5) hu hd hi) ha hR
theorem qrh{P:Program}{a:Act}{w:World}{Q:Exit→Act→World→Prop}{c rest:Code}(l:Nat)(hf:findLabel c l=some rest)
  (first:c.wp P (Exit.jump l (fun a' w'=>rest.wp P (Exit.noGoto Q) a' w') Q) a w):(Code.scope c).wp P Q a w:=by
 refine wp_scope_jumps l (fun a' w'=>rest.wp P (Exit.noGoto Q) a' w') (fun _ _=>0) hf first ?_
 intro a' w' hJ b k cs;obtain⟨e,a₁,w₁,hq,ha⟩:=hJ b k cs;refine⟨e,a₁,w₁,?_,ha⟩;cases e with
 | goto l'=>exact hq.elim
 | normal=>exact hq
 | exit id=>exact hq
 | ret=>exact hq
 | panic ch=>exact hq
 | outgrown=>exact hq
theorem qfl.set{w:World}{g:Nat}(h:qfl w g)(p:Addr)(v:Value):qfl (w.setCell p v) g:=by
 obtain⟨cs,t,h,hs⟩:=h;by_cases hg:g=p.block
 ·subst hg
  refine⟨if p.spot.isSome then cs else cs.setIfInBounds p.off v,t,?_,?_⟩
  ·simp only[World.setCell,Array.getElem?_modify,↓reduceIte,h,Option.map_some]
  ·split<;>simp[hs]
 ·exact⟨cs,t,(Below.heap_setCell w p v g hg).trans h,hs⟩
theorem qy6:(Tryz.prog.info? 3).map (fun i=>(i.zero,i.size,i.bytes))=some (some (.int .i64 0),1,8):=by kernel_rfl
theorem qz8{w:World}{g:Nat}(h:qfl w g)(v0 v1 v2 v3 v4 v5:Value):qfl (set6 w g v0 v1 v2 v3 v4 v5) g:=(((((h.set _ _).set _ _).set _ _).set _ _).set _ _).set _ _
def qej(n:Nat)(w:World)(g:Nat):Prop:=∃cs t,w.heap[g]?=some (.cells cs t (0,0))∧cs.size=n
theorem qej.lt{n:Nat}{w:World}{g:Nat}(h:qej n w g):g<w.heap.size:=by
 obtain⟨cs,t,h,_⟩:=h;exact(Array.getElem?_eq_some_iff.1 h).1
theorem qej.kept{n:Nat}{w w':World}{g B:Nat}(h:qej n w g)(hb:Below B w w')(hB:g<B):qej n w' g:=by
 obtain⟨cs,t,h,hs⟩:=h;exact⟨cs,t,(hb.block g hB).trans h,hs⟩
theorem qej.alloc{n:Nat}{w:World}{g:Nat}(h:qej n w g)(o:Obj):qej n (w.alloc o) g:=h.kept ((Below.refl _ w).alloc (Nat.le_refl _) o) h.lt
theorem qej.drew{n:Nat}{w:World}{g:Nat}(h:qej n w g):qej n w.drew g:=h
theorem q2n(n:Nat)(w:World)(g:Nat)(cs:Array Value)(t:TypeId)(hg:w.heap.size=g)(hs:cs.size=n):qej n (w.alloc (.cells cs t)) g:=by
 subst hg;exact⟨cs,t,heap_alloc_new w _,hs⟩
theorem qej.cell{n:Nat}{w:World}{g:Nat}(h:qej n w g)(j:Nat)(hj:j<n):∃v,w.cell? ⟨g,j,none⟩=some v:=by
 obtain⟨cs,t,h,hs⟩:=h;exact⟨cs[j],by rw[cell_of_row w g j cs t _ h,Array.getElem?_eq_getElem (by omega)]⟩
theorem qej.thaw{n:Nat}{w:World}{g:Nat}(h:qej n w g)(j:Nat):w.frozen? ⟨g,j,none⟩=false:=by
 obtain⟨cs,t,h,hs⟩:=h;simp[World.frozen?,h]
theorem qej.set{n:Nat}{w:World}{g:Nat}(h:qej n w g)(p:Addr)(v:Value):qej n (w.setCell p v) g:=by
 obtain⟨cs,t,h,hs⟩:=h;by_cases hg:g=p.block
 ·subst hg
  refine⟨if p.spot.isSome then cs else cs.setIfInBounds p.off v,t,?_,?_⟩
  ·simp only[World.setCell,Array.getElem?_modify,↓reduceIte,h,Option.map_some]
  ·split<;>simp[hs]
 ·exact⟨cs,t,(Below.heap_setCell w p v g hg).trans h,hs⟩
theorem qej.cellA{n:Nat}{w:World}{g:Nat}(h:qej n w g)(j:Nat)(hj:j<n):∃v,∀o,(w.alloc o).cell? ⟨g,j,none⟩=some v:=by
 obtain⟨v,hv⟩:=h.cell j hj;exact⟨v,fun o=>((Below.refl w.heap.size w).alloc (Nat.le_refl _) o).cell (p:=⟨g,j,none⟩) h.lt |>.trans hv⟩
theorem qej.thawA{n:Nat}{w:World}{g:Nat}(h:qej n w g)(j:Nat)(o:Obj):(w.alloc o).frozen? ⟨g,j,none⟩=false:=(h.alloc o).thaw j
theorem qal(w:World)(o:Obj)(g:Nat)(h:w.heap.size=g):(w.alloc o).heap[g]?=some o:=by rw[←h];exact heap_alloc_new w o
theorem q89(w:World)(a b:Obj):((w.alloc a).alloc b).heap[w.heap.size+1]?=some b:=qal _ _ _ (by simp)
def qgv(w:World)(g:Nat):Nat→List Value→World
 | _,[]=>w
 | k,v::l=>qgv (w.setCell ⟨g,k,none⟩ v) g (k+1) l
theorem qr3(g:Nat)(l:List Value):∀(w:World) (k:Nat) (p:Addr),(∀j,k≤j→j<k+l.length→p≠⟨g,j,none⟩)→(qgv w g k l).cell? p=w.cell? p:=by
 induction l with
 | nil=>intro w k p _;rfl
 | cons v l ih=>
   intro w k p h;show (qgv (w.setCell ⟨g,k,none⟩ v) g (k+1) l).cell? p=_;rw[ih _ _ _ (fun j h1 h2=>h j (by omega) (by simp only[List.length_cons];omega))];exact World.cell?_setCell_other _ _ _ _ (Ne.symm (h k (Nat.le_refl _) (by simp)))
theorem qiy{n:Nat}(g:Nat)(l:List Value):∀(w:World) (k:Nat),qej n w g→k+l.length≤n→∀(j:Nat) (v:Value),l[j]?=some v→(qgv w g k l).cell? ⟨g,k+j,none⟩=some v:=by
 induction l with
 | nil=>intro w k _ _ j v hv;simp at hv
 | cons x l ih=>
   intro w k hs hk j v hv;simp only[List.length_cons]at hk;show (qgv (w.setCell ⟨g,k,none⟩ x) g (k+1) l).cell? _=_
   match j,hv with
   | 0,hv=>
     obtain rfl:x=v:=by simpa using hv
     rw[qr3 _ _ _ _ _ (fun j h1 h2 q=>by simp only[Addr.mk.injEq]at q;omega)];obtain⟨u,hu⟩:=hs.cell k (by omega);exact World.cell?_setCell_same _ _ _ (u:=u) hu
   | j+1,hv=>
     have:=ih (w.setCell ⟨g,k,none⟩ x) (k+1) (hs.set _ _) (by omega) j v (by simpa using hv);rw[show k+(j+1)=k+1+j by omega];exact this
theorem qin{B:Nat}{a:World}(g:Nat)(hg:B≤g)(l:List Value):∀(w:World) (k:Nat),Below B a w→Below B a (qgv w g k l):=by
 induction l with
 | nil=>intro w k h;exact h
 | cons x l ih=>intro w k h;exact ih _ _ (h.setCell (p:=⟨g,k,none⟩) hg _)
def set5(w:World)(g:Nat)(v0 v1 v2 v3 v4:Value):World:=((((w.setCell ⟨g,0,none⟩ v0).setCell ⟨g,1,none⟩ v1).setCell ⟨g,2,none⟩ v2).setCell ⟨g,3,none⟩ v3).setCell ⟨g,4,none⟩ v4
theorem q2w(w:World)(g:Nat)(v0 v1 v2 v3 v4:Value):set5 w g v0 v1 v2 v3 v4=qgv w g 0 [v0,v1,v2,v3,v4]:=rfl
theorem q1f{w:World}{g:Nat}(h:qej 5 w g)(v0 v1 v2 v3 v4:Value):∀(j:Nat) (v:Value),(#[v0,v1,v2,v3,v4]:Array Value).toList[j]?=some v→(set5 w g v0 v1 v2 v3 v4).cell? ⟨g,j,none⟩=some v:=by
 intro j v hv;have:=qiy (n:=5) g [v0,v1,v2,v3,v4] w 0 h (by simp) j v hv;rw[Nat.zero_add]at this;rw[q2w];exact this
theorem qmj{B:Nat}{a w:World}{g:Nat}(h:Below B a w)(hg:B≤g)(v0 v1 v2 v3 v4:Value):Below B a (set5 w g v0 v1 v2 v3 v4):=by
 rw[q2w];exact qin g hg _ _ _ h
theorem qim{P:Program}{fn:Func}{R:Ending→World→Prop}{a:Act}{w:World}{p:Tmp}{ty:TypeId}(h:fn.results=#[.cell p ty])(g:Nat)(d:TypeDesc)(hu:P.underlying ty=some d)(hd:aggD d=true)(hi:(P.info? ty).map (·.size)=some 5)
  (hp:a.tmps.getD p undef=.pointer (some ⟨g,0,none⟩)) (hs:qej 5 w g) (ha:a.defers=[]) (v0 v1 v2 v3 v4:Value) (hR:R (.returned (.agg #[v0,v1,v2,v3,v4])) (set5 w g v0 v1 v2 v3 v4)):bodyPost P fn R .ret a (set5 w g v0 v1 v2 v3 v4):=
 bodyPost_ret (qbk h a.tmps _ g _ d hp (q1f hs v0 v1 v2 v3 v4) hu hd hi) ha hR
def qda(w:World)(g:Nat)(v0 v1 v2 v3 v4 v5 v6 v7 v8 v9:Value):World:=(((((((((w.setCell ⟨g,0,none⟩ v0).setCell ⟨g,1,none⟩ v1).setCell ⟨g,2,none⟩ v2).setCell ⟨g,3,none⟩ v3).setCell ⟨g,4,none⟩ v4).setCell ⟨g,5,none⟩ v5).setCell ⟨g,6,none⟩ v6).setCell ⟨g,7,none⟩ v7).setCell ⟨g,8,none⟩ v8).setCell ⟨g,9,none⟩ v9
theorem qr4(w:World)(g:Nat)(v0 v1 v2 v3 v4 v5 v6 v7 v8 v9:Value):qda w g v0 v1 v2 v3 v4 v5 v6 v7 v8 v9=qgv w g 0 [v0,v1,v2,v3,v4,v5,v6,v7,v8,v9]:=rfl
theorem qx1{w:World}{g:Nat}(h:qej 10 w g)(v0 v1 v2 v3 v4 v5 v6 v7 v8 v9:Value):∀(j:Nat) (v:Value),(#[v0,v1,v2,v3,v4,v5,v6,v7,v8,v9]:Array Value).toList[j]?=some v→(qda w g v0 v1 v2 v3 v4 v5 v6 v7 v8 v9).cell? ⟨g,j,none⟩=some v:=by
 intro j v hv;have:=qiy (n:=10) g [v0,v1,v2,v3,v4,v5,v6,v7,v8,v9] w 0 h (by simp) j v hv;rw[Nat.zero_add]at this;rw[qr4];exact this
theorem qez{B:Nat}{a w:World}{g:Nat}(h:Below B a w)(hg:B≤g)(v0 v1 v2 v3 v4 v5 v6 v7 v8 v9:Value):Below B a (qda w g v0 v1 v2 v3 v4 v5 v6 v7 v8 v9):=by
 rw[qr4];exact qin g hg _ _ _ h
theorem qj5{P:Program}{fn:Func}{R:Ending→World→Prop}{a:Act}{w:World}{p:Tmp}{ty:TypeId}(h:fn.results=#[.cell p ty])(g:Nat)(d:TypeDesc)(hu:P.underlying ty=some d)(hd:aggD d=true)(hi:(P.info? ty).map (·.size)=some 10)
  (hp:a.tmps.getD p undef=.pointer (some ⟨g,0,none⟩)) (hs:qej 10 w g) (ha:a.defers=[]) (v0 v1 v2 v3 v4 v5 v6 v7 v8 v9:Value) (hR:R (.returned (.agg #[v0,v1,v2,v3,v4,v5,v6,v7,v8,v9])) (qda w g v0 v1 v2 v3 v4 v5 v6 v7 v8 v9)):bodyPost P fn R .ret a (qda w g v0 v1 v2 v3 v4 v5 v6 v7 v8 v9):=
 bodyPost_ret (qbk h a.tmps _ g _ d hp (qx1 hs v0 v1 v2 v3 v4 v5 v6 v7 v8 v9) hu hd hi) ha hR
def setM(w:World)(g:Nat)(v0 v1 v2 v3 v4:Value):World:=((((w.setCell ⟨g,5,none⟩ v0).setCell ⟨g,6,none⟩ v1).setCell ⟨g,7,none⟩ v2).setCell ⟨g,8,none⟩ v3).setCell ⟨g,9,none⟩ v4
theorem SxAt.alloc{w:World}{g:Nat}{s:Pl.Sx}(h:SxAt w g s)(hg:g<w.heap.size)(o:Obj):SxAt (w.alloc o) g s:=h.kept ((Below.refl _ w).alloc (Nat.le_refl _) o) hg
theorem SxAt.setFar{w:World}{g:Nat}{s:Pl.Sx}(h:SxAt w g s)(r:Int):SxAt (w.setCell ⟨g,9,none⟩ (.int .i64 r)) g ⟨⟨s.st.mode,s.st.name,s.st.elem,s.st.kind,s.st.read,s.st.esc⟩,⟨s.ma.ref,s.ma.hex,s.ma.pct,r⟩⟩:=
 ⟨(World.cell?_setCell_other _ _ _ _ (by simp)).trans h.mode,(World.cell?_setCell_other _ _ _ _ (by simp)).trans h.name,(World.cell?_setCell_other _ _ _ _ (by simp)).trans h.elem,(World.cell?_setCell_other _ _ _ _ (by simp)).trans h.kind,(World.cell?_setCell_other _ _ _ _ (by simp)).trans h.read,(World.cell?_setCell_other _ _ _ _ (by simp)).trans h.ref,(World.cell?_setCell_other _ _ _ _ (by simp)).trans h.esc,(World.cell?_setCell_other _ _ _ _ (by simp)).trans h.hex,(World.cell?_setCell_other _ _ _ _ (by simp)).trans h.pct,World.cell?_setCell_same _ _ _ h.far⟩
structure Mid(w0 w:World)(g:Nat)(s:Pl.Sx):Prop where
 eq:w0.heap.size=g
 tabs0:PTabs w0
 below:Below w0.heap.size w0 w
 at':SxAt w g s
 slot:qej 10 w g
 res:qej 10 w (g+1)
theorem Mid.kept{w0 w w':World}{g:Nat}{s:Pl.Sx}(h:Mid w0 w g s)(hb:Below w.heap.size w w'):Mid w0 w' g s:=
 ⟨h.eq,h.tabs0,h.below.trans (hb.mono h.below.size),h.at'.kept hb h.slot.lt,h.slot.kept hb h.slot.lt,h.res.kept hb h.res.lt⟩
theorem Mid.alloc{w0 w:World}{g:Nat}{s:Pl.Sx}(h:Mid w0 w g s)(o:Obj):Mid w0 (w.alloc o) g s:=h.kept ((Below.refl _ w).alloc (Nat.le_refl _) o)
theorem Mid.drew{w0 w:World}{g:Nat}{s:Pl.Sx}(h:Mid w0 w g s):Mid w0 w.drew g s:=h.kept (Below.refl _ w).drew
theorem Mid.setFar{w0 w:World}{g:Nat}{s:Pl.Sx}(h:Mid w0 w g s)(r:Int):Mid w0 (w.setCell ⟨g,9,none⟩ (.int .i64 r)) g ⟨⟨s.st.mode,s.st.name,s.st.elem,s.st.kind,s.st.read,s.st.esc⟩,⟨s.ma.ref,s.ma.hex,s.ma.pct,r⟩⟩:=
 ⟨h.eq,h.tabs0,h.below.setCell (p:=⟨g,9,none⟩) (Nat.le_of_eq h.eq) _,h.at'.setFar r,h.slot.set _ _,h.res.set _ _⟩
theorem qum(b:UInt8)(w:World)(h:Pl.among b Pl.hexB=true) :
  Calls Tryz.prog 130 #[.string ⟨#[48,49,50,51,52,53,54,55,56,57,97,98,99,100,101,102,65,66,67,68,69,70]⟩,.int .u8 b.toNat] w fun e w'=>∃x:Int,0≤x∧e=.returned (.int .i64 x)∧w=w':=
 qb3 b _ Pl.hexB w rfl h
theorem qxe(b:UInt8)(w:World)(h:Pl.among b Pl.hexB=false) :
  Calls Tryz.prog 130 #[.string ⟨#[48,49,50,51,52,53,54,55,56,57,97,98,99,100,101,102,65,66,67,68,69,70]⟩,.int .u8 b.toNat] w fun e w'=>e=.returned (.int .i64 (-1))∧w=w':=
 qce b _ Pl.hexB w rfl h
theorem qus(left:Int)(b:UInt8)(w:World)(h0:-1000≤left)(h1:left≤1000) :
  Calls Tryz.prog 182 #[.int .i64 left,.int .u8 b.toNat] w fun e w'=>e=.returned (.int .i64 (Pl.qdq left b))∧w=w':=by
 by_cases hl:0<left
 ·by_cases hb:Pl.among b Pl.hexB=true
  ·have HV:Hid (Pl.qdq left b=left - 1):=by show _=_;unfold Pl.qdq;rw[if_pos ⟨hl,hb⟩]
   have hw:IntKind.i64.wrap (left - 1)=left - 1:=by rw[IntKind.wrap_i64];omega
   go_enter Tryz.func182,Tryz.ntmps182
   go_wp2_with (go_at_call 130;refine(qum b _ hb).mono ?_;rintro e w' ⟨x,hx,rfl,rfl⟩)
   go_ret
   exact⟨qan (by rw[HV.out]),rfl⟩
  ·have hb:=Bool.eq_false_iff.2 hb
   have HV:Hid (Pl.qdq left b=0):=by show _=_;unfold Pl.qdq;rw[if_neg (fun q=>by rw[hb]at q;exact absurd q.2 (by simp))]
   go_enter Tryz.func182,Tryz.ntmps182
   go_wp2_with (go_at_call 130;refine(qxe b _ hb).mono ?_;rintro e w' ⟨rfl,rfl⟩)
   go_ret
   exact⟨qan (by rw[HV.out]),rfl⟩
 ·have HV:Hid (Pl.qdq left b=0):=by show _=_;unfold Pl.qdq;rw[if_neg (fun q=>hl q.1)]
  have ha:decide (0<left)=false:=by rw[decide_eq_false_iff_not];exact hl
  go_enter Tryz.func182,Tryz.ntmps182
  go_wp2_with fail
  go_ret
  exact⟨qan (by rw[HV.out]),rfl⟩
theorem q3r(b:UInt8)(w:World) :
  Calls Tryz.prog 183 #[.int .u8 b.toNat] w fun e w'=>e=.returned (.bool (Pl.quk b))∧w=w':=by
 unfold Pl.quk;by_cases h1:Pl.qc0 b=true
 ·rw[h1,Bool.true_or]
  go_enter Tryz.func183,Tryz.ntmps183
  go_wp2_with (go_at_call 132;refine(qfu b _).mono ?_;rintro e w' ⟨rfl,rfl⟩;rw[h1])
  go_ret
  exact⟨rfl,rfl⟩
 ·have h1:=Bool.eq_false_iff.2 h1
  rw[h1,Bool.false_or];by_cases h2:Pl.qi8 b=true
  ·rw[h2,Bool.true_or]
   go_enter Tryz.func183,Tryz.ntmps183
   go_wp2_with (first | (go_at_call 132;refine(qfu b _).mono ?_;rintro e w' ⟨rfl,rfl⟩;rw[h1]) | (go_at_call 102;refine(qg3 b _).mono ?_;rintro e w' ⟨rfl,rfl⟩;rw[h2]))
   go_ret
   exact⟨rfl,rfl⟩
  ·have h2:=Bool.eq_false_iff.2 h2
   rw[h2,Bool.false_or];have h3:((b.toNat:Int)==35)=(b==35):=Pl.qh3 b 35 (by omega);go_enter Tryz.func183,Tryz.ntmps183
   go_wp2_with (first | (go_at_call 132;refine(qfu b _).mono ?_;rintro e w' ⟨rfl,rfl⟩;rw[h1]) | (go_at_call 102;refine(qg3 b _).mono ?_;rintro e w' ⟨rfl,rfl⟩;rw[h2]))
   go_ret
   exact⟨rfl,rfl⟩
theorem qdv(m:Nat)(w:World) :
  Calls Tryz.prog 154 #[.int .u8 m] w fun e w'=>e=.returned (.int .i64 (Pl.qas m))∧w=w':=by
 by_cases hh:m=1∨m=19∨m=8∨m=9∨m=21∨m=22∨m=29∨m=30
 ·rcases hh with rfl | rfl | rfl | rfl | rfl | rfl | rfl | rfl
  all_goals
   go_enter Tryz.func154,Tryz.ntmps154
   go_wp2
   go_ret
   exact⟨rfl,rfl⟩
 ·have HV:Hid (Pl.qas m=0):=by show _=_;unfold Pl.qas;rw[if_neg (by omega),if_neg (by omega),if_neg (by omega)]
  have q1:((m:Int)==1)=false:=by rw[beq_eq_false_iff_ne];omega
  have q2:((m:Int)==19)=false:=by rw[beq_eq_false_iff_ne];omega
  have q3:((m:Int)==8)=false:=by rw[beq_eq_false_iff_ne];omega
  have q4:((m:Int)==9)=false:=by rw[beq_eq_false_iff_ne];omega
  have q5:((m:Int)==21)=false:=by rw[beq_eq_false_iff_ne];omega
  have q6:((m:Int)==22)=false:=by rw[beq_eq_false_iff_ne];omega
  have q7:((m:Int)==29)=false:=by rw[beq_eq_false_iff_ne];omega
  have q8:((m:Int)==30)=false:=by rw[beq_eq_false_iff_ne];omega
  clear hh;go_enter Tryz.func154,Tryz.ntmps154
  go_wp2
  go_ret
  exact⟨qan (by rw[HV.out]),rfl⟩
theorem beqN(a b:Nat):((a:Int)==(b:Int))=(a==b):=by rw[Bool.eq_iff_iff];simp only[beq_iff_eq,Int.natCast_inj]
theorem qdo(x:Pl.Sx)(w:World) :
  Calls Tryz.prog 153 #[qap x] w fun e w'=>e=.returned (.bool (Pl.qba x.st.kind x.st.mode))∧w.alloc (.cells (qaf x) 162)=w':=by
 unfold Pl.qba qap qaf bs;by_cases h1:(x.st.kind==1)=true
 ·rw[h1,Bool.true_and]
  by_cases h2:x.st.mode=8
  ·have ha:((x.st.mode:Int)==8)=true:=by rw[h2];rfl
   have HV:Hid ((x.st.mode==8 || x.st.mode==9)=true):=by show _=_;rw[h2];rfl
   rw[HV.out];clear h2;go_enter Tryz.func153,Tryz.ntmps153
   go_wp2_with fail
   go_ret
   exact⟨rfl,rfl⟩
  ·have ha:((x.st.mode:Int)==8)=false:=by rw[beq_eq_false_iff_ne];omega
   have HV:Hid ((x.st.mode==8 || x.st.mode==9)=((x.st.mode:Int)==9)):=by
    show _=_;rw[show ((9:Int))=((9:Nat):Int) from rfl,beqN,beq_eq_false_iff_ne.2 h2,Bool.false_or]
   rw[HV.out];clear h2;go_enter Tryz.func153,Tryz.ntmps153
   go_wp2_with fail
   go_ret
   exact⟨rfl,rfl⟩
 ·have h1:=Bool.eq_false_iff.2 h1
  rw[h1,Bool.false_and];go_enter Tryz.func153,Tryz.ntmps153
  go_wp2_with fail
  go_ret
  exact⟨rfl,rfl⟩
theorem qsa(x:Pl.Sx)(w:World) :
  Calls Tryz.prog 111 #[qap x] w fun e w'=>e=.returned (.bool (x.st.mode==0))∧w.alloc (.cells (qaf x) 162)=w':=by
 unfold qap qaf bs;by_cases h:x.st.mode=0
 ·have hb:(x.st.mode==0)=true:=beq_iff_eq.2 h
  rw[hb,h];clear hb;go_enter Tryz.func111,Tryz.ntmps111
  go_wp2
  go_ret
  exact⟨rfl,rfl⟩
 ·have hb:(x.st.mode==0)=false:=beq_eq_false_iff_ne.2 h
  have hi:((x.st.mode:Int)==0)=false:=by rw[beq_eq_false_iff_ne];omega
  rw[hb];clear hb;go_enter Tryz.func111,Tryz.ntmps111
  go_wp2
  go_ret
  exact⟨rfl,rfl⟩
theorem qfw(x:Pl.Sx)(w:World) :
  Calls Tryz.prog 155 #[qap x] w fun e w'=>e=.returned (.bool x.halfway)∧w.alloc (.cells (qaf x) 162)=w':=by
 have HV:Hid (x.halfway=(x.ma.ref || (x.st.esc || (decide (0<x.ma.hex) || (decide (0<x.ma.pct) || decide ((0:Int)<(x.st.read:Int))))))):=by
  show _=_;unfold Pl.Sx.halfway
  congr 4
  exact decide_eq_decide.2 (by omega)
 rw[HV.out];clear HV;unfold qap qaf bs;generalize x.ma.ref=r;generalize x.st.esc=z;generalize x.ma.hex=h;generalize x.ma.pct=p;generalize (x.st.read:Int)=d;cases r with
 | true=>
   go_enter Tryz.func155,Tryz.ntmps155
   go_wp2
   go_ret
   exact⟨rfl,rfl⟩
 | false=>
   cases z with
   | true=>
     go_enter Tryz.func155,Tryz.ntmps155
     go_wp2
     go_ret
     exact⟨rfl,rfl⟩
   | false=>
     by_cases c1:0<h
     ·rw[decide_eq_true c1]
      go_enter Tryz.func155,Tryz.ntmps155
      go_wp2
      go_ret
      exact⟨rfl,rfl⟩
     ·rw[decide_eq_false c1]
      have c1:h≤0:=by omega
      by_cases c2:0<p
      ·rw[decide_eq_true c2]
       go_enter Tryz.func155,Tryz.ntmps155
       go_wp2
       go_ret
       exact⟨rfl,rfl⟩
      ·rw[decide_eq_false c2]
       have c2:p≤0:=by omega
       by_cases c3:0<d
       ·rw[decide_eq_true c3]
        go_enter Tryz.func155,Tryz.ntmps155
        go_wp2
        go_ret
        exact⟨rfl,rfl⟩
       ·rw[decide_eq_false c3]
        have c3:d≤0:=by omega
        go_enter Tryz.func155,Tryz.ntmps155
        go_wp2
        go_ret
        exact⟨rfl,rfl⟩
theorem qe5{P:Program}{fn:Func}{R:Ending→World→Prop}{a:Act}{w:World}{t u:Tmp}(h:fn.results=#[.tmp t,.tmp u])(ha:a.defers=[])(x y:Value)(hx:a.tmps.getD t undef=x)(hy:a.tmps.getD u undef=y)(hR:R (.returned (.tuple #[x,y])) w):bodyPost P fn R .ret a w:=by
 subst hx hy;refine bodyPost_ret ?_ ha hR;simp[results,h]
theorem q88(x:Pl.Sx)(w:World)(h0:Pl.qas x.st.mode=0) :
  Calls Tryz.prog 108 #[qap x] w fun e w'=>e=.returned (.tuple #[.int .i64 x.hole.1,.int .i64 x.hole.2])∧Below w.heap.size w w':=by
 have hW:=fun w=>qdv x.st.mode w;have hH:=fun w=>qfw x w;have hI:=fun w=>qdo x w;have HV:Hid (x.hole=(0,10)):=by
  show _=_;unfold Pl.Sx.hole;rw[if_pos h0]
 rw[HV.out];clear HV;rw[h0]at hW;clear h0;unfold qap qaf bs at hH hI ⊢;have HW:=hd hW;have HH:=hd hH;have HI:=hd hI;clear hW hH hI;go_enter Tryz.func108,Tryz.ntmps108
 go_wp2_with (first
  | (go_at_call 154;refine(HW.out _).mono ?_;rintro e w' ⟨rfl,rfl⟩)
  | (go_at_call 155;refine(HH.out _).mono ?_;rintro e w' ⟨rfl,rfl⟩)
  | (go_at_call 153;refine(HI.out _).mono ?_;rintro e w' ⟨rfl,rfl⟩))
 refine qe5 Tryz.results108 rfl _ _ rfl rfl ?_;exact⟨rfl,by repeat (first | exact Below.refl _ _ | refine Below.alloc ?_ (by simp<;>omega) _)⟩
theorem q87(x:Pl.Sx)(w:World)(h0:¬Pl.qas x.st.mode=0)(h1:x.st.kind=2) :
  Calls Tryz.prog 108 #[qap x] w fun e w'=>e=.returned (.tuple #[.int .i64 x.hole.1,.int .i64 x.hole.2])∧Below w.heap.size w w':=by
 have hW:=fun w=>qdv x.st.mode w;have hH:=fun w=>qfw x w;have hI:=fun w=>qdo x w;have HV:Hid (x.hole=(0,11)):=by
  show _=_;unfold Pl.Sx.hole;rw[if_neg h0,if_pos h1]
 rw[HV.out];clear HV;have c0:((Pl.qas x.st.mode:Int)==0)=false:=by rw[beq_eq_false_iff_ne];omega
 unfold qap qaf bs;rw[h1];unfold qap qaf bs at hH hI;rw[h1]at hH hI;clear h0 h1;generalize (Pl.qas x.st.mode:Int)=a at hW c0;have HW:=hd hW;have HH:=hd hH;have HI:=hd hI;clear hW hH hI;go_enter Tryz.func108,Tryz.ntmps108
 go_wp2_with (first
  | (go_at_call 154;refine(HW.out _).mono ?_;rintro e w' ⟨rfl,rfl⟩)
  | (go_at_call 155;refine(HH.out _).mono ?_;rintro e w' ⟨rfl,rfl⟩)
  | (go_at_call 153;refine(HI.out _).mono ?_;rintro e w' ⟨rfl,rfl⟩))
 refine qe5 Tryz.results108 rfl _ _ rfl rfl ?_;exact⟨rfl,by repeat (first | exact Below.refl _ _ | refine Below.alloc ?_ (by simp<;>omega) _)⟩
theorem q86(x:Pl.Sx)(w:World)(h0:¬Pl.qas x.st.mode=0)(h1:¬x.st.kind=2)(h2:x.halfway=true) :
  Calls Tryz.prog 108 #[qap x] w fun e w'=>e=.returned (.tuple #[.int .i64 x.hole.1,.int .i64 x.hole.2])∧Below w.heap.size w w':=by
 have hW:=fun w=>qdv x.st.mode w;have hH:=fun w=>qfw x w;have hI:=fun w=>qdo x w;have HV:Hid (x.hole=(0,12)):=by
  show _=_;unfold Pl.Sx.hole;rw[if_neg h0,if_neg h1,if_pos h2]
 rw[HV.out];clear HV;have c0:((Pl.qas x.st.mode:Int)==0)=false:=by rw[beq_eq_false_iff_ne];omega
 have c1:((x.st.kind:Int)==2)=false:=by rw[beq_eq_false_iff_ne];exact h1
 rw[h2]at hH;clear h0 h1 h2;generalize (Pl.qas x.st.mode:Int)=a at hW c0;unfold qap qaf bs at hH hI ⊢;have HW:=hd hW;have HH:=hd hH;have HI:=hd hI;clear hW hH hI;go_enter Tryz.func108,Tryz.ntmps108
 go_wp2_with (first
  | (go_at_call 154;refine(HW.out _).mono ?_;rintro e w' ⟨rfl,rfl⟩)
  | (go_at_call 155;refine(HH.out _).mono ?_;rintro e w' ⟨rfl,rfl⟩)
  | (go_at_call 153;refine(HI.out _).mono ?_;rintro e w' ⟨rfl,rfl⟩))
 refine qe5 Tryz.results108 rfl _ _ rfl rfl ?_;exact⟨rfl,by repeat (first | exact Below.refl _ _ | refine Below.alloc ?_ (by simp<;>omega) _)⟩
theorem q85(x:Pl.Sx)(w:World)(h0:¬Pl.qas x.st.mode=0)(h1:¬x.st.kind=2)(h2:¬x.halfway=true)(h3:Pl.qba x.st.kind x.st.mode=true)(h4:x.ma.far=0) :
  Calls Tryz.prog 108 #[qap x] w fun e w'=>e=.returned (.tuple #[.int .i64 x.hole.1,.int .i64 x.hole.2])∧Below w.heap.size w w':=by
 have hW:=fun w=>qdv x.st.mode w;have hH:=fun w=>qfw x w;have hI:=fun w=>qdo x w;have HV:Hid (x.hole=(2,0)):=by
  show _=_;unfold Pl.Sx.hole;rw[if_neg h0,if_neg h1,if_neg h2,if_pos ⟨h3,h4⟩]
 rw[HV.out];clear HV;have c0:((Pl.qas x.st.mode:Int)==0)=false:=by rw[beq_eq_false_iff_ne];omega
 have c1:((x.st.kind:Int)==2)=false:=by rw[beq_eq_false_iff_ne];exact h1
 rw[Bool.eq_false_iff.2 h2]at hH;rw[h3]at hI;unfold qap qaf bs at hH hI ⊢;rw[h4]at hH hI ⊢;clear h0 h1 h2 h3 h4;generalize (Pl.qas x.st.mode:Int)=a at hW c0;have HW:=hd hW;have HH:=hd hH;have HI:=hd hI;clear hW hH hI;go_enter Tryz.func108,Tryz.ntmps108
 go_wp2_with (first
  | (go_at_call 154;refine(HW.out _).mono ?_;rintro e w' ⟨rfl,rfl⟩)
  | (go_at_call 155;refine(HH.out _).mono ?_;rintro e w' ⟨rfl,rfl⟩)
  | (go_at_call 153;refine(HI.out _).mono ?_;rintro e w' ⟨rfl,rfl⟩))
 refine qe5 Tryz.results108 rfl _ _ rfl rfl ?_;exact⟨rfl,by repeat (first | exact Below.refl _ _ | refine Below.alloc ?_ (by simp<;>omega) _)⟩
theorem q84(x:Pl.Sx)(w:World)(h0:¬Pl.qas x.st.mode=0)(h1:¬x.st.kind=2)(h2:¬x.halfway=true)(h3:Pl.qba x.st.kind x.st.mode=true)(h4:¬x.ma.far=0) :
  Calls Tryz.prog 108 #[qap x] w fun e w'=>e=.returned (.tuple #[.int .i64 x.hole.1,.int .i64 x.hole.2])∧Below w.heap.size w w':=by
 have hW:=fun w=>qdv x.st.mode w;have hH:=fun w=>qfw x w;have hI:=fun w=>qdo x w;have HV:Hid (x.hole=(3,0)):=by
  show _=_;unfold Pl.Sx.hole;rw[if_neg h0,if_neg h1,if_neg h2,if_neg (fun q=>h4 q.2),if_pos h3]
 rw[HV.out];clear HV;have c0:((Pl.qas x.st.mode:Int)==0)=false:=by rw[beq_eq_false_iff_ne];omega
 have c1:((x.st.kind:Int)==2)=false:=by rw[beq_eq_false_iff_ne];exact h1
 rw[Bool.eq_false_iff.2 h2]at hH;have c4:((x.ma.far:Int)==0)=false:=by rw[beq_eq_false_iff_ne];exact h4
 rw[h3]at hI;clear h0 h1 h2 h3 h4;generalize (Pl.qas x.st.mode:Int)=a at hW c0;unfold qap qaf bs at hH hI ⊢;have HW:=hd hW;have HH:=hd hH;have HI:=hd hI;clear hW hH hI;go_enter Tryz.func108,Tryz.ntmps108
 go_wp2_with (first
  | (go_at_call 154;refine(HW.out _).mono ?_;rintro e w' ⟨rfl,rfl⟩)
  | (go_at_call 155;refine(HH.out _).mono ?_;rintro e w' ⟨rfl,rfl⟩)
  | (go_at_call 153;refine(HI.out _).mono ?_;rintro e w' ⟨rfl,rfl⟩))
 refine qe5 Tryz.results108 rfl _ _ rfl rfl ?_;exact⟨rfl,by repeat (first | exact Below.refl _ _ | refine Below.alloc ?_ (by simp<;>omega) _)⟩
theorem q83(x:Pl.Sx)(w:World)(h0:¬Pl.qas x.st.mode=0)(h1:¬x.st.kind=2)(h2:¬x.halfway=true)(h3:¬Pl.qba x.st.kind x.st.mode=true) :
  Calls Tryz.prog 108 #[qap x] w fun e w'=>e=.returned (.tuple #[.int .i64 x.hole.1,.int .i64 x.hole.2])∧Below w.heap.size w w':=by
 have hW:=fun w=>qdv x.st.mode w;have hH:=fun w=>qfw x w;have hI:=fun w=>qdo x w;have HV:Hid (x.hole=(Pl.qas x.st.mode,0)):=by
  show _=_;unfold Pl.Sx.hole;rw[if_neg h0,if_neg h1,if_neg h2,if_neg (fun q=>h3 q.1),if_neg h3]
 rw[HV.out];clear HV;have c0:((Pl.qas x.st.mode:Int)==0)=false:=by rw[beq_eq_false_iff_ne];omega
 have c1:((x.st.kind:Int)==2)=false:=by rw[beq_eq_false_iff_ne];exact h1
 rw[Bool.eq_false_iff.2 h2]at hH;rw[Bool.eq_false_iff.2 h3]at hI;clear h0 h1 h2 h3;simp only;generalize (Pl.qas x.st.mode:Int)=a at hW c0 ⊢;unfold qap qaf bs at hH hI ⊢;have HW:=hd hW;have HH:=hd hH;have HI:=hd hI;clear hW hH hI;go_enter Tryz.func108,Tryz.ntmps108
 go_wp2_with (first
  | (go_at_call 154;refine(HW.out _).mono ?_;rintro e w' ⟨rfl,rfl⟩)
  | (go_at_call 155;refine(HH.out _).mono ?_;rintro e w' ⟨rfl,rfl⟩)
  | (go_at_call 153;refine(HI.out _).mono ?_;rintro e w' ⟨rfl,rfl⟩))
 refine qe5 Tryz.results108 rfl _ _ rfl rfl ?_;exact⟨rfl,by repeat (first | exact Below.refl _ _ | refine Below.alloc ?_ (by simp<;>omega) _)⟩
theorem q3w(x:Pl.Sx)(w:World) :
  Calls Tryz.prog 108 #[qap x] w fun e w'=>e=.returned (.tuple #[.int .i64 x.hole.1,.int .i64 x.hole.2])∧Below w.heap.size w w':=by
 by_cases h0:Pl.qas x.st.mode=0
 ·exact q88 x w h0
 by_cases h1:x.st.kind=2
 ·exact q87 x w h0 h1
 by_cases h2:x.halfway=true
 ·exact q86 x w h0 h1 h2
 by_cases h3:Pl.qba x.st.kind x.st.mode=true
 ·by_cases h4:x.ma.far=0
  ·exact q85 x w h0 h1 h2 h3 h4
  ·exact q84 x w h0 h1 h2 h3 h4
 ·exact q83 x w h0 h1 h2 h3
theorem qs9(x:Pl.Sx)(w:World)(h3:¬Pl.qba x.st.kind x.st.mode=true) :
  Calls Tryz.prog 109 #[qap x] w fun e w'=>e=.returned (qap x.behindHole)∧Below w.heap.size w w':=by
 have hI:=fun w=>qdo x w;have HV:Hid (x.behindHole=x):=by
  show _=_;unfold Pl.Sx.behindHole;rw[if_neg (fun q=>h3 q.1)]
 rw[HV.out];clear HV;rw[Bool.eq_false_iff.2 h3]at hI;unfold qap qaf bs at hI ⊢;have HI:=hd hI;clear hI h3;go_enter Tryz.func109,Tryz.ntmps109
 go_wp2_with (go_at_call 153;refine(HI.out _).mono ?_;rintro e w' ⟨rfl,rfl⟩)
 refine bodyPost_ret (qbk Tryz.results109 _ _ (w.heap.size+1) _ _ rfl (qaa ((heap_alloc_old _ _ (by simp)).trans (qal (w.alloc _) _ _ (by simp)))) Tryz.underlying162 rfl (by kernel_rfl)) rfl ?_;exact⟨rfl,by repeat (first | exact Below.refl _ _ | refine Below.alloc ?_ (by simp<;>omega) _)⟩
theorem qs8(x:Pl.Sx)(w:World)(h3:Pl.qba x.st.kind x.st.mode=true)(h4:¬x.ma.far<2) :
  Calls Tryz.prog 109 #[qap x] w fun e w'=>e=.returned (qap x.behindHole)∧Below w.heap.size w w':=by
 have hI:=fun w=>qdo x w;have HV:Hid (x.behindHole=x):=by
  show _=_;unfold Pl.Sx.behindHole;rw[if_neg (fun q=>h4 q.2)]
 rw[HV.out];clear HV;rw[h3]at hI;unfold qap qaf bs at hI ⊢;have HI:=hd hI;have c4:2≤x.ma.far:=by omega
 clear hI h3 h4;go_enter Tryz.func109,Tryz.ntmps109
 go_wp2_with (go_at_call 153;refine(HI.out _).mono ?_;rintro e w' ⟨rfl,rfl⟩)
 refine bodyPost_ret (qbk Tryz.results109 _ _ (w.heap.size+1) _ _ rfl (qaa ((heap_alloc_old _ _ (by simp)).trans (qal (w.alloc _) _ _ (by simp)))) Tryz.underlying162 rfl (by kernel_rfl)) rfl ?_;exact⟨rfl,by repeat (first | exact Below.refl _ _ | refine Below.alloc ?_ (by simp<;>omega) _)⟩
theorem qs7(x:Pl.Sx)(w:World)(h3:Pl.qba x.st.kind x.st.mode=true)(h4:x.ma.far<2) :
  Calls Tryz.prog 109 #[qap x] w fun e w'=>e=.returned (qap x.behindHole)∧Below w.heap.size w w':=by
 have hI:=fun w=>qdo x w;have HV:Hid (x.behindHole=⟨x.st,⟨x.ma.ref,x.ma.hex,x.ma.pct,2⟩⟩):=by
  show _=_;unfold Pl.Sx.behindHole;rw[if_pos ⟨h3,h4⟩]
 rw[HV.out];clear HV;rw[h3]at hI;unfold qap qaf bs at hI ⊢;have HI:=hd hI;clear hI h3;go_enter Tryz.func109,Tryz.ntmps109
 go_wp2_with (go_at_call 153;refine(HI.out _).mono ?_;rintro e w' ⟨rfl,rfl⟩)
 refine bodyPost_ret (qbk Tryz.results109 _ _ (w.heap.size+1) _ _ rfl (qaa ((heap_alloc_old _ _ (by simp)).trans (qal (w.alloc _) _ _ (by simp)))) Tryz.underlying162 rfl (by kernel_rfl)) rfl ?_;exact⟨rfl,by repeat (first | exact Below.refl _ _ | refine Below.alloc ?_ (by simp<;>omega) _)⟩
theorem qjg(x:Pl.Sx)(w:World) :
  Calls Tryz.prog 109 #[qap x] w fun e w'=>e=.returned (qap x.behindHole)∧Below w.heap.size w w':=by
 by_cases h3:Pl.qba x.st.kind x.st.mode=true
 ·by_cases h4:x.ma.far<2
  ·exact qs7 x w h3 h4
  ·exact qs8 x w h3 h4
 ·exact qs9 x w h3
end Go.Proofs.YtfkhljmiehdgmaaGreatDoor
