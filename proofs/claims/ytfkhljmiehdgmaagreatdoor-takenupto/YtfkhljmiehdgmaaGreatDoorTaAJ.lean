/-
  Steps of the proof (texts laid together, blanks left out): ReS, ReG, TgE, TgF, TgG, TgI.
-/
import Derived.Deep.RegionHeld3
import Derived.Test.YtfkhljmiehdgmaaGreatDoorTaAI
import Derived.Test.YtfkhljmiehdgmaaGreatDoorTaAF
import Derived.Test.YtfkhljmiehdgmaaGreatDoorTaAH
import Derived.Test.YtfkhljmiehdgmaaGreatDoorTaAE
import Derived.Test.YtfkhljmiehdgmaaGreatDoorTaAG
namespace Go.Proofs.YtfkhljmiehdgmaaGreatDoor
open Go Go.RowKit Go.Shelf
structure Mine (g:Nat) (w:World) (k:Nat) (cs:Array Value) (T:TypeId):Prop where
 blk:w.heap[k]?=some (.cells cs T (0,0))
 far:¬ Ow g w k
 ty:T≠5
theorem Mine.rn {B g:Nat} {w w':World} {k:Nat} {cs:Array Value} {T:TypeId} (h:Mine g w k cs T) (hr:Rn B g w w'):Mine g w' k cs T:=by
 refine⟨hr.kept k _ h.blk h.far (fun c fz e=>by injection e with _ h2 _; exact h.ty h2),fun hx=>?_,h.ty⟩
 rcases hr.fresh k hx with h1 | h1
 ·exact h.far h1
 ·have:=(Array.getElem?_eq_some_iff.1 h.blk).1
  omega
theorem Mine.new {B g:Nat} {w:World} {vv dv:Value} {e:Pl.Ev} {K:List Pl.Pc} {o:Pl.Wt} (h:WrAt w B g vv dv e K o) (cs:Array Value) (T:TypeId) (hT:T≠5):Mine g (w.alloc (.cells cs T)) w.heap.size cs T:=
 ⟨heap_alloc_new w _,fun hx=>Nat.lt_irrefl _ (h.own_lt ((qih (((Below.refl _ w).alloc (Nat.le_refl _) _).block g h.lt.2) _).1 hx)),hT⟩
theorem Mine.cell {g:Nat} {w:World} {k:Nat} {cs:Array Value} {T:TypeId} (h:Mine g w k cs T) (j:Nat) (v:Value) (hj:cs[j]?=some v):w.cell? ⟨k,j,none⟩=some v:=qaa h.blk j v (by simpa using hj)
theorem Mine.thaw {g:Nat} {w:World} {k:Nat} {cs:Array Value} {T:TypeId} (h:Mine g w k cs T) (j:Nat):w.frozen? ⟨k,j,none⟩=false:=by simp[World.frozen?,h.blk]
theorem Mine.lt {g:Nat} {w:World} {k:Nat} {cs:Array Value} {T:TypeId} (h:Mine g w k cs T):k<w.heap.size:=(Array.getElem?_eq_some_iff.1 h.blk).1
theorem Mine.gne {g:Nat} {w:World} {k:Nat} {cs:Array Value} {T:TypeId} (h:Mine g w k cs T):k≠g:=fun e=>h.far (.inl e)
theorem WrAt.set {B g:Nat} {w:World} {vv dv:Value} {e:Pl.Ev} {K:List Pl.Pc} {o:Pl.Wt} (h:WrAt w B g vv dv e K o) {k:Nat} {cs:Array Value} {T:TypeId} (hm:Mine g w k cs T) (j:Nat) (v:Value):WrAt (w.setCell ⟨k,j,none⟩ v) B g vv dv e K o:=by
 have hk:∀ i,i≠k→(w.setCell ⟨k,j,none⟩ v).heap[i]?=w.heap[i]?:=fun i hi=>Below.heap_setCell _ _ _ _ hi
 obtain⟨sv,hv,p,bv,hq⟩:=h
 have hall:=hq.wb.all
 refine⟨sv,hv,p,bv,⟨hq.wb.le,(hk g (fun e=>hm.gne e.symm)).trans hq.wb.blk,?_,hq.wb.adr,hq.wb.nil⟩,qah hq.st fun b hb=>hk b fun e=>?_,qah hq.ho fun b hb=>hk b fun e=>?_⟩
 ·refine hq.wb.own.kept (row:=some k) ⟨rfl,rfl,rfl,by simp[World.setCell],fun i _ hi=>hk i (fun e=>hi (by simp[e]))⟩ (Or.inr fun e=>?_)
  rcases hq.wb.own.2 with ⟨h1,_⟩ | ⟨b,cap,cur,fz,h1,_,h3,_⟩
  ·rw[h1]at e; cases e
  ·rw[h1]at e
   obtain rfl:b=k:=Option.some.inj e
   have h4:=hm.blk
   rw[h3]at h4
   injection h4 with h4
   injection h4 with _ h4 _
   exact hm.ty h4.symm
 ·subst e
  exact hm.far (.inr (.inl ⟨sv,hall.2.2.2.1,hb⟩))
 ·subst e
  exact hm.far (.inr (.inr ⟨hv,hall.2.2.2.2.2.1,hb⟩))
theorem qig {w:World} {B g n k:Nat} {T U:TypeId} {x:Value} {xs:List Value} {cs:Array Value} {fz:Nat×Nat} (h:w.ownsRow B T k x n xs) (hg:w.heap[g]?=some (.cells cs U fz)) (hTU:T≠U):x.ownBlock≠some g:=by
 intro e
 obtain⟨cur,hc⟩:=qae h g e
 exact qaf hc hg hTU rfl
theorem qsv {w:World} {B n k n' k':Nat} {T U:TypeId} {x y:Value} {xs ys:List Value} (h:w.ownsRow B T k x n xs) (h':w.ownsRow B U k' y n' ys) (hTU:T≠U):x.ownBlock=none∨x.ownBlock≠y.ownBlock:=by
 cases hx:x.ownBlock with
 | none=>exact .inl rfl
 | some b=>
   right
   intro e
   obtain⟨c1,h1⟩:=qae h b hx
   obtain⟨c2,h2⟩:=qae h' b e.symm
   exact qaf h1 h2 hTU rfl
theorem qpj {w:World} {B n k n' k':Nat} {T U:TypeId} {x y:Value} {xs ys:List Value} (h:w.ownsRowF B T k x n xs) (h':w.ownsRow B U k' y n' ys) (hTU:T≠U):x.ownBlock=none∨x.ownBlock≠y.ownBlock:=by
 rcases h.2 with ⟨h1,_⟩ | ⟨b,cap,cur,fz,h1,_,h3,_⟩
 ·exact .inl (by rw[h1]; rfl)
 ·right
  intro e
  rw[h1]at e
  obtain⟨c2,h2⟩:=qae h' b e.symm
  exact qaf h3 h2 hTU rfl
theorem qwz {w:World} {B n k:Nat} {T:TypeId} {x:Value} {xs:List Value} (h:w.ownsRow B T k x n xs) {b:Nat} (hb:x.ownBlock=some b):B≤b:=by
 rcases h.2 with ⟨h1,_⟩ | ⟨c,cap,cur,h1,h2,_⟩
 ·rw[h1]at hb; cases hb
 ·rw[h1]at hb
  obtain rfl:c=b:=Option.some.inj hb
  exact h2
theorem q01 {α:Type} {x y:Option α} (h:x=none∨x≠y) {b:α} (hx:x=some b):some b≠y:=by
 rcases h with h | h
 ·rw[h]at hx; cases hx
 ·rw[← hx]; exact h
theorem WrV.push {B g:Nat} {w w1 w':World} {vv dv:Value} {e:Pl.Ev} {K:List Pl.Pc} {o:Pl.Wt} {sv hv p v:Value} (h:WrV w B g vv dv e K o sv hv p v) (hb:Below w.heap.size w w1) (x:Pl.Pc) {v':Value}
  (hown:w'.ownsRow B 147 2 v' (K.length+1) (qhn dv K++[pcA dv x,.int .i64 (pcI x)])) (hgr:w1.grownBy w' sv.ownBlock) (hloc:v'.ownBlock=sv.ownBlock∨v'.ownBlock=some w1.heap.size) :
  (w'.cell? ⟨g,3,none⟩=some sv∧w'.frozen? ⟨g,3,none⟩=false)∧WrV (w'.setCell ⟨g,3,none⟩ v') B g vv dv e (x::K) o v' hv p v∧Rn B g w (w'.setCell ⟨g,3,none⟩ v'):=by
 have h1:=h.below hb
 have hg1:g<w1.heap.size:=(Array.getElem?_eq_some_iff.1 h1.wb.blk).1
 have hblk:=(hgr.block g hg1 (fun e=>qig h1.st h1.wb.blk (by decide) e.symm)).trans h1.wb.blk
 have hset:∀ i,i≠g→(w'.setCell ⟨g,3,none⟩ v').heap[i]?=w'.heap[i]?:=fun i hi=>Below.heap_setCell _ _ _ _ hi
 have hWg:=heap_setCell_same _ _ 3 _ _ v' hblk
 have hB1:B≤w1.heap.size:=Nat.le_trans h1.wb.le (Nat.le_of_lt hg1)
 have hvw:v.ownBlock=none∨v.ownBlock≠some g:=Or.inr h1.wb.ne
 have hbel:Below B w (w'.setCell ⟨g,3,none⟩ v'):=((hb.mono (Nat.le_trans h.wb.le (Nat.le_of_lt (Array.getElem?_eq_some_iff.1 h.wb.blk).1))).trans ((Below.refl B w1).grown hgr hB1 (fun k e=>qwz h1.st e))).setCell (p:=⟨g,3,none⟩) h.wb.le _
 refine⟨⟨qaa hblk 3 _ rfl,by simp[World.frozen?,hblk]⟩,⟨⟨h1.wb.le,hWg,?_,h1.wb.adr,h1.wb.nil⟩,?_,?_⟩,⟨hbel,fun k ob hk hn _=>?_,fun k hk=>?_⟩⟩
 ·exact(h1.wb.own.kept (row:=sv.ownBlock) hgr (qpj h1.wb.own h1.st (by decide))).kept (row:=some g) ⟨rfl,rfl,rfl,by simp[World.setCell],fun i _ hi=>hset i (fun e=>hi (by simp[e]))⟩ hvw
 ·rw[qie]
  exact qah hown fun b hb1=>hset b (fun e=>by subst e; exact qig hown hblk (by decide) hb1)
 ·refine qah h1.ho fun b hb1=>?_
  obtain⟨cur,hc⟩:=qae h1.ho b hb1
  exact(hset b (fun e=>by subst e; exact qig h1.ho h1.wb.blk (by decide) hb1)).trans (hgr.block b (Array.getElem?_eq_some_iff.1 hc).1 (q01 (qsv h1.ho h1.st (by decide)) hb1))
 ·have hkw:=(Array.getElem?_eq_some_iff.1 hk).1
  have hk1:=(hb.block k hkw).trans hk
  have hall:=h.wb.all
  exact(hset k (fun e=>hn (.inl e))).trans ((hgr.block k (Nat.lt_of_lt_of_le hkw hb.size) (fun e=>hn (.inr (.inl ⟨sv,hall.2.2.2.1,e.symm⟩)))).trans hk1)
 ·have hall:=h.wb.all
  have c:=qaa hWg
  rcases hk with rfl | ⟨s2,h5,h6⟩ | ⟨s2,h5,h6⟩
  ·exact .inl (.inl rfl)
  ·rw[c 3 _ rfl]at h5
   obtain rfl:=Option.some.inj h5
   rcases hloc with h7 | h7
   ·exact .inl (.inr (.inl ⟨sv,hall.2.2.2.1,by rw[← h7]; exact h6⟩))
   ·rw[h7]at h6
    have:=Option.some.inj h6
    have:=hb.size
    exact .inr (by omega)
  ·rw[c 7 _ rfl]at h5
   obtain rfl:=Option.some.inj h5
   exact .inl (.inr (.inr ⟨_,hall.2.2.2.2.2.1,h6⟩))
theorem WrV.pop {B g:Nat} {w:World} {vv dv:Value} {e:Pl.Ev} {K:List Pl.Pc} {o:Pl.Wt} {x:Pl.Pc} {sv hv p v:Value} (h:WrV w B g vv dv e (x::K) o sv hv p v) :
  ∃ so cap,sv=.slice so (K.length+1) cap∧K.length+1≤cap∧cap≤maxLen∧WrV (w.setCell ⟨g,3,none⟩ (.slice so K.length cap)) B g vv dv e K o (.slice so K.length cap) hv p v∧Rn B g w (w.setCell ⟨g,3,none⟩ (.slice so K.length cap)):=by
 have hset:∀ v',∀ i,i≠g→(w.setCell ⟨g,3,none⟩ v').heap[i]?=w.heap[i]?:=fun v' i hi=>Below.heap_setCell _ _ _ _ hi
 have hst:=h.st
 rcases h.st.2 with ⟨_,h2⟩ | ⟨b,cap,cur,h1,h2,h3,h4,h5,h6,h7⟩
 ·cases h2
 ·subst h1
  have hbg:b≠g:=fun e=>by subst e; exact qig h.st h.wb.blk (by decide) rfl
  have hlen:(qhn dv K).length=K.length*2:=qm6 dv K
  have htk:cur.toList.take (K.length*2)=qhn dv K:=by
   have h8:=congrArg (List.take (K.length*2)) h7
   rw[List.take_take,qie,List.take_append_of_le_length (by omega),← hlen,List.take_length,hlen]at h8
   rw[← h8]
   congr 1
   simp only[List.length_cons]
   omega
  refine⟨some ⟨b,0,none⟩,cap,rfl,h4,h5,⟨⟨h.wb.le,heap_setCell_same _ _ 3 _ _ _ h.wb.blk,?_,h.wb.adr,h.wb.nil⟩,⟨hlen,.inr ⟨b,cap,cur,rfl,h2,(hset _ b hbg).trans h3,by simp only[List.length_cons]at h4; omega,h5,h6,htk⟩⟩,qah h.ho fun b' hb1=>hset _ b' (fun e=>by subst e; exact qig h.ho h.wb.blk (by decide) hb1)⟩,⟨(Below.refl B w).setCell (p:=⟨g,3,none⟩) h.wb.le _,fun k ob hk hn _=>(hset _ k (fun e=>hn (.inl e))).trans hk,fun k hk=>.inl ?_⟩⟩
  ·exact h.wb.own.kept (row:=some g) ⟨rfl,rfl,rfl,by simp[World.setCell],fun i _ hi=>hset _ i (fun e=>hi (by simp[e]))⟩ (Or.inr h.wb.ne)
  ·have hall:=h.wb.all
   have c:=qaa (heap_setCell_same _ _ 3 _ _ (.slice (some ⟨b,0,none⟩) K.length cap) h.wb.blk)
   rcases hk with rfl | ⟨s2,h8,h9⟩ | ⟨s2,h8,h9⟩
   ·exact .inl rfl
   ·rw[c 3 _ rfl]at h8
    obtain rfl:=Option.some.inj h8
    exact .inr (.inl ⟨_,hall.2.2.2.1,h9⟩)
   ·rw[c 7 _ rfl]at h8
    obtain rfl:=Option.some.inj h8
    exact .inr (.inr ⟨_,hall.2.2.2.2.2.1,h9⟩)
theorem WrV.grown {B g:Nat} {w w':World} {vv dv:Value} {e:Pl.Ev} {K:List Pl.Pc} {o:Pl.Wt} {sv hv p v:Value} (h:WrV w B g vv dv e K o sv hv p v) {row:Option Nat} (hgr:w.grownBy w' row) (hr:∀ r,row=some r→∃ ob:Obj,w.heap[r]?=some ob∧ob.isCells=false):WrV w' B g vv dv e K o sv hv p v:=by
 have hk:∀(k:Nat) (cs:Array Value) (T:TypeId) (fz:Nat×Nat),w.heap[k]?=some (Obj.cells cs T fz)→w'.heap[k]?=some (Obj.cells cs T fz):=fun k cs T fz hk=>(hgr.block k (Array.getElem?_eq_some_iff.1 hk).1 (fun e=>by
  obtain⟨ob,h1,h2⟩:=hr k e.symm
  rw[hk]at h1; cases h1; cases h2)).trans hk
 refine⟨⟨h.wb.le,hk _ _ _ _ h.wb.blk,?_,h.wb.adr,h.wb.nil⟩,qah h.st fun b hb=>?_,qah h.ho fun b hb=>?_⟩
 ·refine h.wb.own.kept (row:=row) hgr ?_
  rcases h.wb.own.2 with ⟨h1,_⟩ | ⟨b,cap,cur,fz,h1,_,h3,_⟩
  ·exact .inl (by rw[h1]; rfl)
  ·right
   intro e
   rw[h1]at e
   obtain⟨ob,h4,h5⟩:=hr b e.symm
   rw[h3]at h4; cases h4; cases h5
 ·obtain⟨cur,hc⟩:=qae h.st b hb
  rw[hc]; exact hk _ _ _ _ hc
 ·obtain⟨cur,hc⟩:=qae h.ho b hb
  rw[hc]; exact hk _ _ _ _ hc
theorem WrAt.grown {B g:Nat} {w w':World} {vv dv:Value} {e:Pl.Ev} {K:List Pl.Pc} {o:Pl.Wt} (h:WrAt w B g vv dv e K o) {row:Option Nat} (hgr:w.grownBy w' row) (hr:∀ r,row=some r→∃ ob:Obj,w.heap[r]?=some ob∧ob.isCells=false):WrAt w' B g vv dv e K o:=by
 obtain⟨sv,hv,p,v,h⟩:=h
 exact⟨sv,hv,p,v,h.grown hgr hr⟩
def Gb (g:Nat) (w:World):Prop:=∃ cs,w.heap[g]?=some (.cells cs 155 (0,0))
theorem WrAt.gb {B g:Nat} {w:World} {vv dv:Value} {e:Pl.Ev} {K:List Pl.Pc} {o:Pl.Wt} (h:WrAt w B g vv dv e K o):Gb g w:=by
 obtain⟨sv,hv,p,v,h⟩:=h
 exact⟨_,h.wb.blk⟩
theorem qh3 {w w':World} {row:Option Nat} (hgr:w.grownBy w' row) (hr:∀ r,row=some r→∃ ob:Obj,w.heap[r]?=some ob∧ob.isCells=false) {k:Nat} {cs:Array Value} {T:TypeId} {fz:Nat×Nat} (hk:w.heap[k]?=some (.cells cs T fz)):w'.heap[k]?=w.heap[k]?:=
 hgr.block k (Array.getElem?_eq_some_iff.1 hk).1 fun e=>by
  obtain⟨ob,h1,h2⟩:=hr k e.symm
  rw[hk]at h1; cases h1; cases h2
theorem Gb.grown {g:Nat} {w w':World} (h:Gb g w) {row:Option Nat} (hgr:w.grownBy w' row) (hr:∀ r,row=some r→∃ ob:Obj,w.heap[r]?=some ob∧ob.isCells=false):Gb g w':=by
 obtain⟨cs,h⟩:=h
 exact⟨cs,(qh3 hgr hr h).trans h⟩
theorem Mine.grown {g:Nat} {w w':World} {k:Nat} {cs:Array Value} {T:TypeId} (h:Mine g w k cs T) (hG:Gb g w) {row:Option Nat} (hgr:w.grownBy w' row) (hr:∀ r,row=some r→∃ ob:Obj,w.heap[r]?=some ob∧ob.isCells=false):Mine g w' k cs T:=by
 obtain⟨gs,hG⟩:=hG
 exact⟨(qh3 hgr hr h.blk).trans h.blk,fun hx=>h.far ((qih (qh3 hgr hr hG) _).1 hx),h.ty⟩
theorem Rn.grown {B g:Nat} {w a b:World} (h:Rn B g w a) (hB:B≤w.heap.size) (hG:Gb g a) {row:Option Nat} (hgr:a.grownBy b row) (hr:∀ r,row=some r→w.heap.size≤r∧∃ ob:Obj,a.heap[r]?=some ob∧ob.isCells=false):Rn B g w b:=by
 obtain⟨gs,hG⟩:=hG
 refine⟨h.below.grown hgr (Nat.le_trans hB h.below.size) (fun k e=>Nat.le_trans hB (hr k e).1),fun k ob hk hn ho=>(hgr.block k (Nat.lt_of_lt_of_le (Array.getElem?_eq_some_iff.1 hk).1 h.below.size) (fun e=>?_)).trans (h.kept k ob hk hn ho),fun k hk=>h.fresh k ((qih (qh3 hgr (fun r e=>(hr r e).2) hG) _).1 hk)⟩
 have h1:=(hr k e.symm).1
 have h2:=(Array.getElem?_eq_some_iff.1 hk).1
 omega
theorem Mine.put {g:Nat} {w:World} {k:Nat} {z:Value} {T:TypeId} (h:Mine g w k #[z] T) (v:Value):Mine g (w.setCell ⟨k,0,none⟩ v) k #[v] T:=
 ⟨heap_setCell_same _ _ 0 _ _ v h.blk,fun hx=>h.far ((qih (Below.heap_setCell _ _ _ _ (fun e=>h.gne (by simpa using e.symm))) _).1 hx),h.ty⟩
theorem Mine.apart {g:Nat} {w:World} {k:Nat} {cs:Array Value} {T:TypeId} (h:Mine g w k cs T) {sv:Value} (hc:w.cell? ⟨g,3,none⟩=some sv):some k≠sv.ownBlock:=fun e=>h.far (.inr (.inl ⟨sv,hc,e.symm⟩))
theorem q0l {B g:Nat} {w W:World} {vv dv:Value} {e:Pl.Ev} {K:List Pl.Pc} {o:Pl.Wt} (hB:B≤w.heap.size) (hW:WrAt W B g vv dv e K o) (hrn:Rn B g w W) {k:Nat} {z:Value} {T:TypeId} (hm:Mine g W k #[z] T) {D:Nat} (hD:w.heap.size≤D) (hDk:W.heap[D]?=some (.deferred (some []))) :
  WrAt (W.putObj D (.deferred none)) B g vv dv e K o∧Rn B g w (W.putObj D (.deferred none))∧(W.putObj D (.deferred none)).cell? ⟨k,0,none⟩=some z:=by
 have hgr:=grownBy_putObj' W D (.deferred none)
 have hr:∀ r,some D=some r→w.heap.size≤r∧∃ ob:Obj,W.heap[r]?=some ob∧ob.isCells=false:=fun r e=>by cases e; exact⟨hD,_,hDk,rfl⟩
 exact⟨hW.grown hgr (fun r e=>(hr r e).2),hrn.grown hB hW.gb hgr hr,(hm.grown hW.gb hgr (fun r e=>(hr r e).2)).cell 0 _ rfl⟩
section
variable {P:Program} {md:Region.Mode} {ops:Array Oper} {Q:Exit→Act→World→Prop} {S:World→Prop}
theorem qa4 {i:Nat} {fuel:Nat} {listed:Array Bool} {a:Act} {w:World} (v:Value) {o:Oper} (hi:ops[i]?=some o) (hs:Region.noSelect ops=true) (hf:Region.free md ops listed i=true) (hr:(Region.ready md ops listed).contains i=true)
  (hQ:∀ c a w,Q (.panic c) (a.put o.dst v) w→Q (.panic c) a w) (hg:o.guard=none) (hy:∀ w',S w'→(execOp a.eval o).run P w'=.ok (.value v) w') (hS:S w) (h:wpAnyH P md ops Q S fuel (listed.setIfInBounds i true) (a.put o.dst v) w):wpAnyH P md ops Q S (fuel+1) listed a w:=
 wpAnyH_take hi hs hf hr hQ (Or.inl ⟨by simp[Region.wanted,hg],hy⟩) hS h
theorem qf6 {o:Oper} {a:Act} {w:World} {K:Act→World→Prop} {E:Prop} (hg:o.guard=none) (f:FuncId) (xs:Array Operand) (ts:Array TypeId) (hop:o.op=Op.call { callee:=Callee.value (.func f),args:=xs,argTypes:=ts }) (hE:Enters P f) (R:Value→World→Prop) (args:Array Value) (hargs:xs.map a.eval=args)
  (hC:Calls P f args w fun e w'=>∃ v,e=.returned v∧R v w') (hK:∀ v w',R v w'→K (a.put o.dst v) w'):if Region.wanted o (yielded ops a.tmps)=true then Oper.wp P o a w K Q else E:=by
 have hw:Region.wanted o (yielded ops a.tmps)=true:=by simp[Region.wanted,hg]
 rw[if_pos hw]
 have hrun:(execOp a.eval o).run P w=.ok (.enter f args) w:=by
  rw[← hargs]
  simp[execOp,hop,resolve,invoke,go_sem]
  exact hE _ _
 unfold Oper.wp
 rw[hrun]
 refine hC.mono ?_
 rintro e w' ⟨v,rfl,hR⟩
 exact hK v w' hR
end
end Go.Proofs.YtfkhljmiehdgmaaGreatDoor
namespace Go.Proofs.YtfkhljmiehdgmaaGreatDoor
open Go.RowKit
structure PrAt (w w':World):Prop where
 res:w'.heap[w.heap.size]?=some (.cells #[.slice none 0 0,.int .i64 0] 147 (0,0))
 below:Below w.heap.size w w'
theorem qqq (w:World):PrAt w (w.alloc (.cells #[.slice none 0 0,.int .i64 0] 147)):=⟨heap_alloc_new w _,(Below.refl _ _).alloc (Nat.le_refl _) _⟩
theorem PrAt.lt {w w':World} (h:PrAt w w'):w.heap.size<w'.heap.size:=(Array.getElem?_eq_some_iff.1 h.res).1
theorem PrAt.next {w w1 w':World} (h:PrAt w w1) (hb:Below w1.heap.size w1 w'):PrAt w w':=
 ⟨(hb.block _ h.lt).trans h.res,h.below.trans (hb.mono h.below.size)⟩
theorem PrAt.facts {w w':World} (h:PrAt w w'):(w'.cell? ⟨w.heap.size,0,none⟩=some (.slice none 0 0)∧w'.cell? ⟨w.heap.size,1,none⟩=some (.int .i64 0))∧w'.frozen? ⟨w.heap.size,0,none⟩=false∧w'.frozen? ⟨w.heap.size,1,none⟩=false:=by
 have c:=qaa h.res
 refine⟨⟨c 0 _ rfl,c 1 _ rfl⟩,?_⟩
 simp[World.frozen?,h.res]
set_option maxRecDepth 100000 in
set_option maxHeartbeats 3200000 in
theorem qux (dv v:Value) (D:List Pl.Dt) (K:List Pl.Pc) (name:ByteArray) (B:Nat) (w:World) (hB:B≤w.heap.size) (hD:DsAt B w dv D) (hK:qui w dv v K) :
  Calls Tryz.prog 213 #[v,.string name] w fun e w'=>e=.returned (qd9 dv (Pl.qg5 D name.data.toList K))∧Below w.heap.size w w':=by
 obtain⟨R,HR⟩:∃ R,Hid (Pl.qg5 D name.data.toList K=R):=⟨_,rfl⟩
 rw[HR.out]
 have HK:=(show Hid _ from hK)
 have HD:=(show Hid _ from hD)
 obtain⟨so,cap,rfl,hl,_⟩:=hK
 have hKl:(K.length:Int)≤9223372036854775807:=by unfold maxLen at hl; omega
 clear hl hD
 go_enter Tryz.func213,Tryz.ntmps213
 go_wp2_with fail
 go_loopw [5] (fun i wr=>∃ j:Nat,i=.int .i64 ((j:Int) - 1)∧j≤K.length∧Hid (PrAt w wr)∧Hid (Pl.qg5 D name.data.toList (K.drop (K.length - j))=R)) (fun i _=>(intOf i+1).toNat)
 case atStart=>exact⟨K.length,by go_num,Nat.le_refl _,qqq w,by rw[Nat.sub_self]; exact HR.out⟩
 case round=>
  obtain⟨j,rfl,hj,HP,HJ⟩:=hrel
  by_cases hj0:j=0
  ·subst hj0
   have HE:Hid (R=none):=by
    show _=_
    rw[← HJ.out,Nat.sub_zero,List.drop_length]
    rfl
   obtain⟨⟨r0,r1⟩,f0,f1⟩:=HP.out.facts
   clear HJ HR
   go_wp2_with fail
   rw[HE.out]
   exact qjr (g:=w.heap.size) Tryz.results213 rfl rfl (heap_setCell_same _ _ _ _ _ _ (heap_setCell_same _ _ _ _ _ _ HP.out.res)) rfl ⟨rfl,(HP.out.below.setCell (p:=⟨w.heap.size,0,none⟩) (Nat.le_refl _) _).setCell (p:=⟨w.heap.size,1,none⟩) (Nat.le_refl _) _⟩
  ·obtain⟨m,rfl⟩:∃ m,j=m+1:=⟨j - 1,by omega⟩
   have hm:m<K.reverse.length:=by rw[List.length_reverse]; omega
   obtain⟨p,hp⟩:∃ p,K.reverse[m]?=some p:=⟨_,List.getElem?_eq_getElem hm⟩
   have hdrop:K.drop (K.length - (m+1))=p::K.drop (K.length - m):=by
    have h1:K.length - (m+1)<K.length:=by omega
    rw[List.drop_eq_getElem_cons h1,show K.length - (m+1)+1=K.length - m by omega]
    congr 1
    rw[List.getElem?_reverse (by omega)]at hp
    have h2:K.length - 1 - m=K.length - (m+1):=by omega
    rw[h2,List.getElem?_eq_getElem h1]at hp
    exact Option.some.inj hp
   have HJ2:Hid ((match Pl.ql3 D p name.data.toList with | some q=>q | none=>Pl.qg5 D name.data.toList (K.drop (K.length - m)))=R):=by
    show _=_
    have:=HJ.out
    rw[hdrop]at this
    exact this
   obtain⟨so',cap',hv',_,hx⟩:=HK.out
   simp only[Value.slice.injEq]at hv'
   obtain⟨b,hso,hbl,hcell⟩:=hx (fun e=>by rw[e]at hj; simp at hj)
   have hso2:so=some ⟨b,0,none⟩:=hv'.1.trans hso
   subst hso2
   obtain⟨d0,d1⟩:=hcell m p hp
   have e0:=(HP.out.below.cell (p:=⟨b,m*2,none⟩) hbl).trans d0
   have e1:=(HP.out.below.cell (p:=⟨b,m*2+1,none⟩) hbl).trans d1
   have HFl:Hid (Calls Tryz.prog 214 #[qd9 dv p,.string name] wr fun e w'=>e=.returned (qps dv (Pl.ql3 D p name.data.toList))∧Below wr.heap.size wr w'):=qtk dv D p name B wr (Nat.le_trans hB HP.out.below.size) (DsAt.below HD.out (HP.out.below.mono hB))
   have HA:=(show Hid _ from qfu HD.out)
   obtain⟨pa,pn,pcap,hpA⟩:=HA.out p
   rw[qcy,hpA]at HFl
   rw[hpA]at e0
   have hmj:(m:Int)<(K.length:Int):=by omega
   have hm0:(0:Int)≤(m:Int):=by omega
   have hsub:((m+1:Nat):Int) - 1=(m:Int):=by omega
   rw[hsub]
   clear hcell hx d0 d1 HJ hdrop hp hm HR hso hv' hpA
   cases hr:Pl.ql3 D p name.data.toList with
   | none=>
     rw[hr]at HFl HJ2
     have HFl2:Hid (Calls Tryz.prog 214 #[.agg #[.slice pa pn pcap,.int .i64 (pcI p)],.string name] wr fun e w'=>e=.returned (.tuple #[.agg #[.slice none 0 0,.int .i64 0],.bool false])∧Below wr.heap.size wr w'):=HFl
     clear HFl hr
     go_wp2_with (go_at_call 214; refine Calls.mono HFl2.out ?_; rintro e w' ⟨rfl,hb⟩; have HB:=(show Hid _ from hb); clear hb)
     go_roundw
     case rel=>exact⟨m,by go_num,by omega,(HP.out.next HB.out).next ((Below.refl _ _).alloc (Nat.le_refl _) _),HJ2⟩
     case measure=>simp[intOf]
   | some q=>
     rw[hr]at HFl HJ2
     obtain⟨qa,qn,qcap,hqA⟩:=HA.out q
     have HFl2:Hid (Calls Tryz.prog 214 #[.agg #[.slice pa pn pcap,.int .i64 (pcI p)],.string name] wr fun e w'=>e=.returned (.tuple #[.agg #[.slice qa qn qcap,.int .i64 (pcI q)],.bool true])∧Below wr.heap.size wr w'):=by
      have h:=HFl.out
      show Calls _ _ _ _ _
      rw[← hqA,← qcy]
      exact h
     have HR2:Hid (qd9 dv R=.agg #[.slice qa qn qcap,.int .i64 (pcI q)]):=by
      show _=_
      rw[← HJ2.out,qcy,hqA]
     clear HFl hr hqA HJ2
     go_wp2_with (go_at_call 214; refine Calls.mono HFl2.out ?_; rintro e w' ⟨rfl,hb⟩; have hP2:=fun o=>(HP.out.next hb).next ((Below.refl _ _).alloc (Nat.le_refl _) o); have HP2:=(show Hid _ from hP2); have r0:=fun o=>(hP2 o).facts.1.1; have r1:=fun o=>(hP2 o).facts.1.2; have f0:=fun o=>(hP2 o).facts.2.1; have f1:=fun o=>(hP2 o).facts.2.2; clear hb hP2)
     rw[HR2.out]
     exact qjr (g:=w.heap.size) Tryz.results213 rfl rfl (heap_setCell_same _ _ _ _ _ _ (heap_setCell_same _ _ _ _ _ _ (HP2.out _).res)) rfl ⟨rfl,((HP2.out _).below.setCell (p:=⟨w.heap.size,0,none⟩) (Nat.le_refl _) _).setCell (p:=⟨w.heap.size,1,none⟩) (Nat.le_refl _) _⟩
theorem qkk:(Tryz.prog.info? 229).map (fun i=>(i.zero,i.size,i.bytes))=some (some (.agg #[.int .i64 0,.int .i64 0,.string ⟨#[]⟩,.int .i64 0]),4,40):=by kernel_rfl
theorem q1j:(Tryz.prog.info? 3).map (fun i=>(i.zero,i.size,i.bytes))=some (some (.int .i64 0),1,8):=by kernel_rfl
theorem qi0:(Value.agg #[.int .i64 0,.int .i64 0,.string ⟨#[]⟩,.int .i64 0]).cells.size=4:=rfl
theorem qhg (t:List UInt8) (a z:Nat):(⟨t.toArray⟩:ByteArray).extract a z=⟨((t.drop a).take (z - a)).toArray⟩:=by
 rw[Lib.extract_eq]
set_option maxRecDepth 100000 in
set_option maxHeartbeats 3200000 in
theorem qom (w:World) (B g:Nat) (t:List UInt8) (c:Pl.Ct) (vp vo:Value) (a z:Nat) (h:CtAt w B g t c vp vo) (hz:z≤t.length) (hn:c.parts.length≤4000) :
  Calls Tryz.prog 147 #[.pointer (some ⟨g,0,none⟩),.int .i64 a,.int .i64 z] w fun e w'=>(∃ r,e=.returned r)∧CtTo w w' B g t (c.addText t a z):=by
 by_cases haz:a<z
 rotate_left
 ·have HV:Hid (c.addText t a z=c):=by show _=_; unfold Pl.Ct.addText; rw[if_neg haz]
  have c1:¬(a:Int)<(z:Int):=by omega
  rw[HV.out]
  have H:=(show Hid _ from h)
  clear HV haz h
  go_enter Tryz.func147,Tryz.ntmps147
  go_wp2_with fail
  go_end0
  exact⟨⟨_,rfl⟩,⟨⟨vp,vo,H.out⟩,Cur.refl _ _ _⟩⟩
 have HV:Hid (c.addText t a z={ c with parts:=c.parts++[⟨1,a,(t.drop a).take (z - a),0⟩] }):=by show _=_; unfold Pl.Ct.addText; rw[if_pos haz]
 rw[HV.out]
 obtain⟨T,hT⟩:∃ T,T=(⟨t.toArray⟩:ByteArray):=⟨_,rfl⟩
 have hTs:T.size=t.length:=by rw[hT]; simp[ByteArray.size]
 have HX:Hid (∀ x:ByteArray,x=T.extract a z→Value.string x=bs ((t.drop a).take (z - a))):=by
  rintro x rfl
  rw[hT,qhg]; rfl
 obtain⟨i0,hi,hz0,hz1,hz2⟩:=info_parts qkk
 have c1:(a:Int)<(z:Int):=by omega
 have c2:(z:Int)≤(T.size:Int):=by omega
 have c3:(a:Int)≤(z:Int):=by omega
 have b0:=h.cell 0 _ rfl
 have b3:=h.cell 3 _ rfl
 have f3:=h.thaw 3
 have b4:(w.alloc (.cells #[.int .i64 1,.int .i64 a,.string (T.extract a z),.int .i64 0] 229)).cell? ⟨g,3,none⟩=some vp:=(h.alloc _).cell 3 _ rfl
 unfold bs at b0
 rw[← hT]at b0
 have hBle:B≤w.heap.size:=by have:=h.lt; have:=h.le; omega
 have H:=(show Hid _ from h)
 clear HV haz h hT
 go_enter Tryz.func147,Tryz.ntmps147
 go_wp2_with fail
 go_region_law (refine qbl rfl (.tmp 13) (.tmp 23) 168 rfl B 229 i0 (.agg #[.int .i64 0,.int .i64 0,.string ⟨#[]⟩,.int .i64 0]) 4 40 Tryz.underlying168 hi hz0 hz1 hz2 qi0 (by decide) vp c.parts.length _ (by simp[Act.eval]) (World.ownsRow.alloc H.out.parts _) ⟨_,0,none⟩ 1 1 [.int .i64 1,.int .i64 a,.string (T.extract a z),.int .i64 0] (by simp[Act.eval]) rfl (qgd _ _ _) (by simp[Value.oneCell']) (by unfold maxLen; omega) (by omega) (by simp; omega) ?_; intro v' w' hown hgr hloc; obtain⟨g',cap',rfl,_,_⟩:=qao hown (by omega); obtain⟨q3,r3⟩:=H.out.ahead (((Below.refl _ _).alloc (Nat.le_refl _) _).drew) (.inl rfl) hgr 3 _ rfl)
 all_goals
  go_end0
  rw[HX.out _ rfl]at hown
  exact⟨⟨_,rfl⟩,H.out.moreTo (((Below.refl _ _).alloc (Nat.le_refl _) _).drew) ⟨1,a,_,0⟩ hown hgr⟩
theorem qes {w:World} {B n k:Nat} {e:TypeId} {v:Value} {xs:List Value} (h:w.ownsRow B e k v n xs):∃ ao cap,v=.slice ao n cap:=by
 rcases h.2 with ⟨rfl,rfl⟩ | ⟨g,cap,cur,hv,_⟩
 ·exact⟨none,0,rfl⟩
 ·exact⟨_,_,hv⟩
theorem qb9 {w:World} {B n k g cap:Nat} {e:TypeId} {xs:List Value} (h:w.ownsRow B e k (.slice (some ⟨g,0,none⟩) n cap) n xs) (j:Nat) (u:Value) (hu:xs[j]?=some u):w.cell? ⟨g,j,none⟩=some u:=by
 have:=World.ownsRow.cells h (g:=g) rfl j u hu
 have e:(⟨g,0,none⟩:Addr).add j=⟨g,j,none⟩:=by simp only[Addr.add,Nat.zero_add]; split<;>simp_all
 rw[e]at this
 exact this
theorem qjs (L:List Nat) (k m:Nat) (h:L[k]?=some m):(qeb L)[k]?=some (.int .i64 m):=by simp[qeb,h]
theorem qhi (k:Nat) (h:k≤1000000000):IntKind.i64.wrap (k:Int)=k:=by
 rw[IntKind.wrap_i64]
 omega
def qf7 (k p:Nat):Value:=.agg #[.int .i64 k,.int .i64 p]
set_option maxRecDepth 100000 in
set_option maxHeartbeats 3200000 in
theorem qs2 (w:World) (B g:Nat) (t:List UInt8) (c:Pl.Ct) (vp vo:Value) (h:CtAt w B g t c vp vo) (hO:∀ m∈c.opened,m<c.parts.length) (hn:c.parts.length≤4000) (h6:c.opened.length≤6) :
  Calls Tryz.prog 148 #[.pointer (some ⟨g,0,none⟩)] w fun e w'=>e=.returned (qf7 c.left.1 c.left.2)∧Below w.heap.size w w':=by
 have b3:∀ o,(w.alloc o).cell? ⟨g,3,none⟩=some vp:=fun o=>(h.alloc o).cell 3 _ rfl
 have b4:∀ o,(w.alloc o).cell? ⟨g,4,none⟩=some vo:=fun o=>(h.alloc o).cell 4 _ rfl
 by_cases h0:c.opened.length=0
 ·have HV:Hid (c.left=(0,0)):=by show _=_; unfold Pl.Ct.left; rw[List.length_eq_zero_iff.1 h0]; rfl
  obtain⟨ao,cap,rfl⟩:=qes h.opened
  rw[HV.out]
  rw[h0]at b4
  clear HV h hO hn h6 h0
  unfold qf7
  go_enter Tryz.func148,Tryz.ntmps148
  go_wp2_with fail
  refine bodyPost_ret (qbn Tryz.results148 _ _ w.heap.size _ _ rfl (qaa (heap_alloc_new w _)) Tryz.underlying169 rfl (by kernel_rfl)) rfl ?_
  exact⟨rfl,(Below.refl _ _).alloc (Nat.le_refl _) _⟩
 ·obtain⟨k,hk⟩:∃ k,c.opened.length=k+1:=⟨c.opened.length - 1,by omega⟩
  have hx:c.opened[k]?=some c.opened[k]:=List.getElem?_eq_getElem (by omega)
  have hl:c.opened.getLast?=some c.opened[k]:=by rw[List.getLast?_eq_getElem?,show c.opened.length - 1=k by omega]; exact hx
  have hm:=hO _ (List.mem_of_getElem? hx)
  generalize c.opened[k]=m at hx hl hm
  have hp:c.parts[m]?=some c.parts[m]:=List.getElem?_eq_getElem hm
  have HV:Hid (c.left=(7,c.parts[m].pos)):=by show _=_; unfold Pl.Ct.left Pl.qox; rw[hl]; simp only; rw[hp]
  generalize c.parts[m]=p at hp HV
  obtain⟨go,capo,hvo,hgo,hgo2⟩:=qao h.opened (by omega)
  obtain⟨gp,capp,hvp,hgp,hgp2⟩:=qao h.parts (by omega)
  have q4:∀ o,(w.alloc o).cell? ⟨go,k,none⟩=some (.int .i64 m):=fun o=>qb9 (hvo▸(h.alloc o).opened) k _ (qjs _ _ _ hx)
  have q3:∀ o,(w.alloc o).cell? ⟨gp,m*4+1,none⟩=some (.int .i64 p.pos):=fun o=>qb9 (hvp▸(h.alloc o).parts) _ _ (qdz _ _ _ hp 1 _ rfl)
  rw[hvo,hk]at b4
  rw[hvp]at b3
  rw[HV.out]
  have d1:(m:Int)<(c.parts.length:Int):=by omega
  generalize c.parts.length=N at b3 d1
  have w1:IntKind.i64.wrap (k:Int)=k:=qhi k (by omega)
  clear HV h hO hn hgo hgo2 hgp hgp2 hvo hvp hx hl hp hm h0 hk
  unfold qf7
  go_enter Tryz.func148,Tryz.ntmps148
  go_wp2_with fail
  go_region
  go_wp2_with fail
  refine bodyPost_ret (qbn Tryz.results148 _ _ w.heap.size _ _ rfl (qaa (heap_alloc_new w _)) Tryz.underlying169 rfl (by kernel_rfl)) rfl ?_
  exact⟨rfl,((Below.refl _ _).alloc (Nat.le_refl _) _).drew⟩
theorem CtAt.two {w:World} {B g:Nat} {t:List UInt8} {c:Pl.Ct} {vp vo:Value} (h:CtAt w B g t c vp vo) (j:Nat) (v:Value) (hv:[bs t,bs c.op,bs c.cl,vp,vo][j]?=some v):∀ o o',((w.alloc o).alloc o').cell? ⟨g,j,none⟩=some v:=fun o o'=>((h.alloc o).alloc o').cell j v hv
theorem CtAt.two' {w:World} {B g:Nat} {t:List UInt8} {c:Pl.Ct} {vp vo:Value} (h:CtAt w B g t c vp vo) (j:Nat):∀ o o',((w.alloc o).alloc o').frozen? ⟨g,j,none⟩=false:=fun o o'=>((h.alloc o).alloc o').thaw j
theorem CtAt.to {w w':World} {B g:Nat} {t:List UInt8} {c:Pl.Ct} {vp vo:Value} (h:CtAt w B g t c vp vo) (hb:Below w.heap.size w w'):CtTo w w' B g t c:=⟨⟨_,_,h.below hb⟩,Cur.of_below hb (Nat.le_trans h.le (Nat.le_of_lt h.lt))⟩
set_option maxRecDepth 100000 in
set_option maxHeartbeats 3200000 in
theorem qz4 (w:World) (B g:Nat) (t:List UInt8) (c:Pl.Ct) (vp vo:Value) (h:CtAt w B g t c vp vo) (one:Pl.Tg) (a:Nat) (hs:one.slip≠0) :
  Calls Tryz.prog 152 #[.pointer (some ⟨g,0,none⟩),qdl one,.int .i64 a] w fun e w'=>e=.returned (.int .i64 (c.take one a).1)∧CtTo w w' B g t (c.take one a).2:=by
 have HV:Hid (c.take one a=(one.slip,c)):=by show _=_; unfold Pl.Ct.take; rw[if_pos hs]
 rw[HV.out]
 have H:=(show Hid _ from h)
 have c1:¬(one.slip:Int)=0:=by omega
 clear HV h hs
 unfold qdl bs
 go_enter Tryz.func152,Tryz.ntmps152
 go_wp2_with fail
 go_ret
 exact⟨rfl,H.out.to ((Below.refl _ _).alloc (Nat.le_refl _) _)⟩
set_option maxRecDepth 100000 in
set_option maxHeartbeats 3200000 in
theorem qr5 (w:World) (B g:Nat) (t:List UInt8) (c:Pl.Ct) (vp vo:Value) (h:CtAt w B g t c vp vo) (n op cl:List UInt8) (a:Nat) :
  Calls Tryz.prog 152 #[.pointer (some ⟨g,0,none⟩),qdl ⟨7,0,n,op,cl⟩,.int .i64 a] w fun e w'=>e=.returned (.int .i64 (0:Nat))∧CtTo w w' B g t c:=by
 have H:=(show Hid _ from h)
 clear h
 unfold qdl bs
 go_enter Tryz.func152,Tryz.ntmps152
 go_wp2_with fail
 go_ret
 exact⟨rfl,H.out.to (((Below.refl _ _).alloc (Nat.le_refl _) _).alloc (by simp) _)⟩
set_option maxRecDepth 100000 in
set_option maxHeartbeats 3200000 in
theorem qr3 (w:World) (B g:Nat) (t:List UInt8) (c:Pl.Ct) (vp vo:Value) (h:CtAt w B g t c vp vo) (k:Nat) (n op cl:List UInt8) (a:Nat) (hk:k=2∨k=6) (hn:c.parts.length≤4000) :
  Calls Tryz.prog 152 #[.pointer (some ⟨g,0,none⟩),qdl ⟨k,0,n,op,cl⟩,.int .i64 a] w fun e w'=>e=.returned (.int .i64 (0:Nat))∧CtTo w w' B g t { c with parts:=c.parts++[⟨k,a,n,0⟩] }:=by
 obtain⟨i0,hi,hz0,hz1,hz2⟩:=info_parts qkk
 have b3:=h.two 3 _ rfl
 have f3:=h.two' 3
 have b4:∀ o o' o'',(((w.alloc o).alloc o').alloc o'').cell? ⟨g,3,none⟩=some vp:=fun o o' o''=>(((h.alloc o).alloc o').alloc o'').cell 3 _ rfl
 have hBle:B≤w.heap.size:=by have:=h.lt; have:=h.le; omega
 have H:=(show Hid _ from h)
 clear h
 unfold qdl bs
 rcases hk with rfl | rfl
 all_goals
  go_enter Tryz.func152,Tryz.ntmps152
  go_wp2_with fail
  go_region_law (refine qbl rfl (.tmp 119) (.tmp 121) 168 rfl B 229 i0 (.agg #[.int .i64 0,.int .i64 0,.string ⟨#[]⟩,.int .i64 0]) 4 40 Tryz.underlying168 hi hz0 hz1 hz2 qi0 (by decide) vp c.parts.length _ (by simp[Act.eval]) (World.ownsRow.alloc (World.ownsRow.alloc (World.ownsRow.alloc H.out.parts _) _) _) ⟨_,0,none⟩ 1 1 [_,.int .i64 a,.string ⟨n.toArray⟩,.int .i64 0] (by simp[Act.eval]) rfl (qgd _ _ _) (by simp[Value.oneCell']) (by unfold maxLen; omega) (by omega) (by simp; omega) ?_; intro v' w' hown hgr hloc; obtain⟨g',cap',rfl,_,_⟩:=qao hown (by omega); obtain⟨q3,r3⟩:=H.out.ahead ((((Below.refl _ _).alloc (Nat.le_refl _) _).alloc (by simp) _).alloc (by simp<;>omega) _).drew (.inl rfl) hgr 3 _ rfl)
  all_goals
   go_wp2_with fail
   go_ret
   exact⟨rfl,H.out.moreTo ((((Below.refl _ _).alloc (Nat.le_refl _) _).alloc (by simp) _).alloc (by simp<;>omega) _).drew ⟨_,a,n,0⟩ hown hgr⟩
set_option maxRecDepth 100000 in
set_option maxHeartbeats 3200000 in
theorem qr4 (w:World) (B g:Nat) (t:List UInt8) (c:Pl.Ct) (vp vo:Value) (h:CtAt w B g t c vp vo) (k:Nat) (n op cl:List UInt8) (a:Nat) (hk:k=3∨k=4) (h6:c.opened.length=6) :
  Calls Tryz.prog 152 #[.pointer (some ⟨g,0,none⟩),qdl ⟨k,0,n,op,cl⟩,.int .i64 a] w fun e w'=>e=.returned (.int .i64 (8:Nat))∧CtTo w w' B g t c:=by
 obtain⟨ao,cap,hvo⟩:=qes h.opened
 have b4:=h.two 4 _ rfl
 rw[hvo,h6]at b4
 have H:=(show Hid _ from h)
 clear h h6 hvo
 unfold qdl bs
 rcases hk with rfl | rfl
 all_goals
  go_enter Tryz.func152,Tryz.ntmps152
  go_wp2_with fail
  go_ret
  exact⟨rfl,H.out.to (((Below.refl _ _).alloc (Nat.le_refl _) _).alloc (by simp) _)⟩
set_option maxRecDepth 100000 in
set_option maxHeartbeats 3200000 in
theorem qxr (w:World) (B g:Nat) (t:List UInt8) (c:Pl.Ct) (vp vo:Value) (h:CtAt w B g t c vp vo) (n op cl:List UInt8) (a:Nat) (h6:c.opened.length=0) :
  Calls Tryz.prog 152 #[.pointer (some ⟨g,0,none⟩),qdl ⟨5,0,n,op,cl⟩,.int .i64 a] w fun e w'=>e=.returned (.int .i64 (5:Nat))∧CtTo w w' B g t c:=by
 obtain⟨ao,cap,hvo⟩:=qes h.opened
 have b4:=h.two 4 _ rfl
 rw[hvo,h6]at b4
 have H:=(show Hid _ from h)
 clear h h6 hvo
 unfold qdl bs
 go_enter Tryz.func152,Tryz.ntmps152
 go_wp2_with fail
 go_ret
 exact⟨rfl,H.out.to (((Below.refl _ _).alloc (Nat.le_refl _) _).alloc (by simp) _)⟩
theorem CtAt.delims {w:World} {B g:Nat} {t:List UInt8} {c:Pl.Ct} {vp vo:Value} (h:CtAt w B g t c vp vo) (op cl:List UInt8) :
  CtTo w ((w.setCell ⟨g,1,none⟩ (bs op)).setCell ⟨g,2,none⟩ (bs cl)) B g t { c with op:=op,cl:=cl }:=by
 have hset:∀ k,k≠g→((w.setCell ⟨g,1,none⟩ (bs op)).setCell ⟨g,2,none⟩ (bs cl)).heap[k]?=w.heap[k]?:=fun k hk=>(Below.heap_setCell _ _ _ _ hk).trans (Below.heap_setCell _ _ _ _ hk)
 refine⟨⟨vp,vo,?_,?_,?_,h.le⟩,?_,fun k cs ty fz hk h1 h2 h3=>hset k h1⟩
 ·rw[heap_setCell_same _ _ _ _ _ _ (heap_setCell_same _ _ _ _ _ _ h.blk)]; rfl
 ·refine qah h.parts fun k hk=>hset k ?_
  obtain⟨cur,hc⟩:=qae h.parts k hk
  exact fun e=>qaf h.blk hc qej e.symm
 ·refine qah h.opened fun k hk=>hset k ?_
  obtain⟨cur,hc⟩:=qae h.opened k hk
  exact fun e=>qaf h.blk hc qf5 e.symm
 ·exact((Below.refl _ _).setCell (p:=⟨g,1,none⟩) h.le _).setCell (p:=⟨g,2,none⟩) h.le _
theorem CtAt.delims' {w:World} {B g:Nat} {t:List UInt8} {c:Pl.Ct} {vp vo:Value} (h:CtAt w B g t c vp vo) (op cl:List UInt8) :
  CtTo w ((w.setCell ⟨g,2,none⟩ (bs cl)).setCell ⟨g,1,none⟩ (bs op)) B g t { c with op:=op,cl:=cl }:=by
 have hset:∀ k,k≠g→((w.setCell ⟨g,2,none⟩ (bs cl)).setCell ⟨g,1,none⟩ (bs op)).heap[k]?=w.heap[k]?:=fun k hk=>(Below.heap_setCell _ _ _ _ hk).trans (Below.heap_setCell _ _ _ _ hk)
 refine⟨⟨vp,vo,?_,?_,?_,h.le⟩,?_,fun k cs ty fz hk h1 h2 h3=>hset k h1⟩
 ·rw[heap_setCell_same _ _ _ _ _ _ (heap_setCell_same _ _ _ _ _ _ h.blk)]; rfl
 ·refine qah h.parts fun k hk=>hset k ?_
  obtain⟨cur,hc⟩:=qae h.parts k hk
  exact fun e=>qaf h.blk hc qej e.symm
 ·refine qah h.opened fun k hk=>hset k ?_
  obtain⟨cur,hc⟩:=qae h.opened k hk
  exact fun e=>qaf h.blk hc qf5 e.symm
 ·exact((Below.refl _ _).setCell (p:=⟨g,2,none⟩) h.le _).setCell (p:=⟨g,1,none⟩) h.le _
theorem CtTo.after {w w0 w':World} {B g:Nat} {t:List UInt8} {c:Pl.Ct} (hc:Cur B g w w0) (h:CtTo w0 w' B g t c):CtTo w w' B g t c:=⟨h.ex,hc.trans h.cur⟩
theorem CtAt.pushAt {w w0 w':World} {B g:Nat} {t:List UInt8} {c:Pl.Ct} {vp vo vo':Value} (h:CtAt w B g t c vp vo) (hb0:Below w.heap.size w w0) (n:Nat) (hown:w'.ownsRow B 3 1 vo' (c.opened.length+1) (qeb c.opened++[.int .i64 n])) (hgr:w0.grownBy w' vo.ownBlock) :
  CtAt (w'.setCell ⟨g,4,none⟩ vo') B g t { c with opened:=c.opened++[n] } vp vo'∧Cur B g w (w'.setCell ⟨g,4,none⟩ vo')∧∀ k x,w0.heap[k]?=some x→w.heap.size≤k→(w'.setCell ⟨g,4,none⟩ vo').heap[k]?=some x:=by
 obtain⟨h1,h2⟩:=(h.below hb0).push n hown hgr
 refine⟨h1,(Cur.of_below hb0 (Nat.le_trans h.le (Nat.le_of_lt h.lt))).trans h2,fun k x hk hle=>?_⟩
 refine(Below.heap_setCell _ _ _ _ (by have:=h.lt; simp only; omega)).trans ((hgr.block k (Array.getElem?_eq_some_iff.1 hk).1 (fun e=>?_)).trans hk)
 have:=(h.opened.lt k e.symm).2
 omega
set_option maxRecDepth 100000 in
set_option maxHeartbeats 3200000 in
theorem quz (w:World) (B g:Nat) (t:List UInt8) (c:Pl.Ct) (vp vo:Value) (h:CtAt w B g t c vp vo) (n op cl:List UInt8) (a:Nat) :
  Calls Tryz.prog 152 #[.pointer (some ⟨g,0,none⟩),qdl ⟨8,0,n,op,cl⟩,.int .i64 a] w fun e w'=>e=.returned (.int .i64 (0:Nat))∧CtTo w w' B g t { c with op:=op,cl:=cl }:=by
 have b1:=h.two 1 _ rfl
 have b2:=h.two 2 _ rfl
 have f1:=h.two' 1
 have f2:=h.two' 2
 have hBle:B≤w.heap.size:=by have:=h.lt; have:=h.le; omega
 have H:=(show Hid _ from h)
 clear h
 unfold qdl bs at *
 go_enter Tryz.func152,Tryz.ntmps152
 go_wp2_with fail
 go_region
 all_goals
  go_wp2_with fail
  go_ret
  have hb:=(((Below.refl w.heap.size w).alloc (Nat.le_refl _) (.cells #[.int .i64 8,.int .i64 0,.string ⟨n.toArray⟩,.string ⟨op.toArray⟩,.string ⟨cl.toArray⟩] 274)).alloc (by simp) (.cells #[.int .i64 8,.int .i64 a,.string ⟨n.toArray⟩,.int .i64 0] 229)).drew
  first
   | exact⟨rfl,CtTo.after (Cur.of_below hb hBle) (CtAt.delims (CtAt.below H.out hb) op cl)⟩
   | exact⟨rfl,CtTo.after (Cur.of_below hb hBle) (CtAt.delims' (CtAt.below H.out hb) op cl)⟩
theorem qz1 (w:World) (o:Obj) (g:Nat) (h:w.heap.size=g):(w.alloc o).heap[g]?=some o:=by
 subst h
 exact heap_alloc_new w o
end Go.Proofs.YtfkhljmiehdgmaaGreatDoor
