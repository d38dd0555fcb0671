/-
  Steps of the proof.
-/
import Derived.Test.YtfkhljmiehdgmaaGreatDoorCmAR
import Derived.Test.YtfkhljmiehdgmaaGreatDoorCmAM
import Derived.Test.YtfkhljmiehdgmaaGreatDoorCmAP
import Derived.Test.YtfkhljmiehdgmaaGreatDoorCmAS
import Derived.Test.YtfkhljmiehdgmaaGreatDoorCmAH
import Derived.Test.YtfkhljmiehdgmaaGreatDoorCmAO
set_option maxRecDepth 100000
set_option maxHeartbeats 40000000
namespace Go.Proofs.YtfkhljmiehdgmaaGreatDoor
open Go.RowKit
variable{w w0 w':World}{B g:Nat}{t:List UInt8}{c:Pl.Ct}{vp vo:Value}
theorem CtAt.delims(h:CtAt w B g t c vp vo)(op cl:List UInt8) :
  CtTo w ((w.setCell ⟨g,1,none⟩ (bs op)).setCell ⟨g,2,none⟩ (bs cl)) B g t { c with op:=op,cl:=cl }:=by
 have ha:∀k,k≠g->((w.setCell ⟨g,1,none⟩ (bs op)).setCell ⟨g,2,none⟩ (bs cl)).heap[k]?=w.heap[k]?:=fun k hk=>(Below.heap_setCell _ _ _ _ hk).trans (Below.heap_setCell _ _ _ _ hk);refine⟨⟨vp,vo,?_,?_,?_,h.le⟩,?_,fun k cs ty fz hk h1 h2 h3=>ha k h1⟩
 ·rw[heap_setCell_same _ _ _ _ _ _ (heap_setCell_same _ _ _ _ _ _ h.blk)];rfl
 ·refine qac h.parts fun k hk=>ha k ?_
  obtain⟨cur,hc⟩:=qad h.parts k hk;exact fun e=>qae h.blk hc qfr e.symm
 ·refine qac h.opened fun k hk=>ha k ?_
  obtain⟨cur,hc⟩:=qad h.opened k hk;exact fun e=>qae h.blk hc qhs e.symm
 ·exact((Below.refl _ _).setCell (p:=⟨g,1,none⟩) h.le _).setCell (p:=⟨g,2,none⟩) h.le _
theorem CtTo.after(hc:Cur B g w w0)(h:CtTo w0 w' B g t c):CtTo w w' B g t c:=⟨h.ex,hc.trans h.cur⟩
theorem CtAt.pushAt{vo':Value}(h:CtAt w B g t c vp vo)(Ha:Below w.heap.size w w0)(n:Nat)(ha:w'.ownsRow B 3 1 vo' (c.opened.length+1) (qby c.opened++[.int .i64 n]))(hb:w0.grownBy w' vo.ownBlock) :
  CtAt (w'.setCell ⟨g,4,none⟩ vo') B g t { c with opened:=c.opened++[n] } vp vo'/\Cur B g w (w'.setCell ⟨g,4,none⟩ vo')/\∀k x,w0.heap[k]?=some x->w.heap.size<=k->(w'.setCell ⟨g,4,none⟩ vo').heap[k]?=some x:=by
 obtain⟨h1,h2⟩:=(h.below Ha).push n ha hb;refine⟨h1,(Cur.of_below Ha (Nat.le_trans h.le (Nat.le_of_lt h.lt))).trans h2,fun k x hk Hb=>?_⟩;refine(Below.heap_setCell _ _ _ _ (by have:=h.lt;simp only;omega)).trans ((hb.block k (Array.getElem?_eq_some_iff.1 hk).1 (fun e=>?_)).trans hk);have:=(h.opened.lt k e.symm).2;omega
theorem qwm(w:World)(B g:Nat)(t:List UInt8)(c:Pl.Ct)(vp vo:Value)(h:CtAt w B g t c vp vo)(n op cl:List UInt8)(a:Nat) :
  Calls Tryz.prog 152 #[.pointer (some ⟨g,0,none⟩),qec ⟨8,0,n,op,cl⟩,.int .i64 a] w fun e w'=>e=.returned (.int .i64 (0:Nat))/\CtTo w w' B g t { c with op:=op,cl:=cl }:=by
 have b1:=h.two 1 _ rfl;have b2:=h.two 2 _ rfl;have f1:=h.two' 1;have f2:=h.two' 2;have ha:B<=w.heap.size:=by have:=h.lt;have:=h.le;omega
 have H:=hd h;clear h;unfold qec bs at *;go_enter Tryz.func152,Tryz.ntmps152
 go_wp2_with fail
 go_region
 all_goals
  go_wp2_with fail
  go_ret
  have hb:=(((Below.refl w.heap.size w).alloc (Nat.le_refl _) (.cells #[.int .i64 8,.int .i64 0,.string ⟨n.toArray⟩,.string ⟨op.toArray⟩,.string ⟨cl.toArray⟩] 274)).alloc (by simp) (.cells #[.int .i64 8,.int .i64 a,.string ⟨n.toArray⟩,.int .i64 0] 229)).drew
  first
   |exact⟨rfl,CtTo.after (Cur.of_below hb ha) (CtAt.delims (CtAt.below H.out hb) op cl)⟩
   |exact⟨rfl,CtTo.after (Cur.of_below hb ha) (CtAt.delims' (CtAt.below H.out hb) op cl)⟩
theorem q2q(w:World)(o:Obj)(g:Nat)(h:w.heap.size=g):(w.alloc o).heap[g]?=some o:=by
 subst h;exact heap_alloc_new w o
variable{w:World}{B g:Nat}{t:List UInt8}{c:Pl.Ct}
theorem CtAt.mated{gp N capp:Nat}{vo:Value}(h:CtAt w B g t c (.slice (some ⟨gp,0,none⟩) N capp) vo)(m n:Nat)(hm:m<c.parts.length) :
  CtAt (w.setCell ⟨gp,m*4+3,none⟩ (.int .i64 n)) B g t { c with parts:=Pl.qbc c.parts m n } (.slice (some ⟨gp,0,none⟩) N capp) vo/\Cur B g w (w.setCell ⟨gp,m*4+3,none⟩ (.int .i64 n)):=by
 have ha:∀k,k≠gp->(w.setCell ⟨gp,m*4+3,none⟩ (.int .i64 n)).heap[k]?=w.heap[k]?:=fun k hk=>Below.heap_setCell _ _ _ _ hk;obtain⟨cur,hc⟩:=qad h.parts gp rfl;have Ha:=(h.parts.lt gp rfl).1;refine⟨⟨(ha g (qae h.blk hc qfr)).trans h.blk,?_,?_,h.le⟩,?_,?_⟩
 ·have hs:(Pl.qbc c.parts m n).length=c.parts.length:=Pl.qid _ _ _
  have hN:N=c.parts.length:=by
   rcases h.parts.2 with⟨h0,_⟩|⟨g',cap',cur',hv,_⟩
   ·cases h0
   ·injection hv
  subst hN;show World.ownsRow _ _ _ _ _ (Pl.qbc c.parts m n).length (qb0 (Pl.qbc c.parts m n));rw[hs,<-qm1 _ _ _ hm];exact(h.parts.stored (m*4+3) (.int .i64 n)).1
 ·refine qac h.opened fun k hk=>ha k ?_
  obtain⟨cur',hb⟩:=qad h.opened k hk;exact fun e=>qae hc hb qke e.symm
 ·exact(Below.refl _ _).setCell (p:=⟨gp,m*4+3,none⟩) Ha _
 ·intro k cs ty fz hk h1 h2 h3
  exact ha k (qae hk hc h2)
theorem CtAt.popped{go capo:Nat}{vp:Value}{M:Nat}(h:CtAt w B g t c vp (.slice (some ⟨go,0,none⟩) M capo))(k:Nat)(hk:c.opened.length=k+1) :
  CtAt (w.setCell ⟨g,4,none⟩ (.slice (some ⟨go,0,none⟩) k capo)) B g t { c with opened:=c.opened.dropLast } vp (.slice (some ⟨go,0,none⟩) k capo)/\Cur B g w (w.setCell ⟨g,4,none⟩ (.slice (some ⟨go,0,none⟩) k capo)):=by
 have ha:∀k',k'≠g->(w.setCell ⟨g,4,none⟩ (.slice (some ⟨go,0,none⟩) k capo)).heap[k']?=w.heap[k']?:=fun k' Ha=>Below.heap_setCell _ _ _ _ Ha;have hM:M=c.opened.length:=by
  rcases h.opened.2 with⟨h0,_⟩|⟨g',cap',cur',hv,_⟩
  ·cases h0
  ·injection hv
 subst hM;have ht:=qi6 h.opened k (by omega);have e1:(qby c.opened).take (k*1)=qby c.opened.dropLast:=by
  rw[Nat.mul_one,List.dropLast_eq_take,show c.opened.length - 1=k by omega];simp[qby]
 have e2:c.opened.dropLast.length=k:=by simp;omega
 rw[e1]at ht;refine⟨⟨?_,?_,?_,h.le⟩,?_,fun k' cs ty fz Ha h1 _ _=>ha k' h1⟩
 ·rw[heap_setCell_same _ _ _ _ _ _ h.blk];rfl
 ·refine qac h.parts fun k' Ha=>ha k' ?_
  obtain⟨cur',hb⟩:=qad h.parts k' Ha;exact fun e=>qae h.blk hb qfr e.symm
 ·show World.ownsRow _ _ _ _ _ c.opened.dropLast.length (qby c.opened.dropLast)
  rw[e2];refine qac ht fun k' Ha=>ha k' ?_;obtain⟨cur',hb⟩:=qad ht k' Ha;exact fun e=>qae h.blk hb qhs e.symm
 ·exact(Below.refl _ _).setCell (p:=⟨g,4,none⟩) h.le _
theorem qvr{a b:List UInt8}(h:a≠b):((⟨a.toArray⟩:ByteArray).toList==(⟨b.toArray⟩:ByteArray).toList)=false:=by
 rw[Lib.toList_data,Lib.toList_data];exact beq_eq_false_iff_ne.2 (by simpa using h)
theorem qr6(w:World)(B g:Nat)(t:List UInt8)(c:Pl.Ct)(vp vo:Value)(h:CtAt w B g t c vp vo)(n op cl:List UInt8)(a k m:Nat)(hk:c.opened.length=k+1)(hm:c.opened[k]?=some m)(p:Pl.Pt)(hp:c.parts[m]?=some p)(ha:p.text≠n)(h6:c.opened.length<=6) :
  Calls Tryz.prog 152 #[.pointer (some ⟨g,0,none⟩),qec ⟨5,0,n,op,cl⟩,.int .i64 a] w fun e w'=>e=.returned (.int .i64 (6:Nat))/\CtTo w w' B g t c:=by
 have Ha:m<c.parts.length:=(List.getElem?_eq_some_iff.1 hp).1;obtain⟨go,capo,hb,_,_⟩:=qaj h.opened (by omega);obtain⟨gp,capp,Hb,_,_⟩:=qaj h.parts (by omega);subst hb Hb;have b3:=h.two 3 _ rfl;have b4:=h.two 4 _ rfl;have q4:∀o o',((w.alloc o).alloc o').cell? ⟨go,k,none⟩=some (.int .i64 m):=fun o o'=>qfv ((h.alloc o).alloc o').opened k _ (qkp _ _ _ hm);have q2:∀o o',((w.alloc o).alloc o').cell? ⟨gp,m*4+2,none⟩=some (.string ⟨p.text.toArray⟩):=fun o o'=>qfv ((h.alloc o).alloc o').parts _ _ (qft _ _ _ hp 2 _ rfl);have w1:IntKind.i64.wrap (k:Int)=k:=qh7 k (by omega);have d1:(m:Int)<(c.parts.length:Int):=by omega
 have e1:=qvr ha;have H:=hd h;rw[hk]at b4;clear h hp hm;unfold qec bs;generalize (⟨p.text.toArray⟩:ByteArray)=X at q2 e1;generalize (⟨n.toArray⟩:ByteArray)=Y at e1 |-;generalize hN:c.parts.length=N at b3 d1;clear hN Ha h6 ha;go_enter Tryz.func152,Tryz.ntmps152
 go_wp2_with fail
 go_region
 all_goals
  go_wp2_with fail
  go_ret
  exact⟨rfl,H.out.to ((ba _).alloc (by simp) _).drew⟩
theorem qkk(w:World)(o:Obj):(w.alloc o).heap.size=w.heap.size+1:=by unfold World.alloc;simp only[Array.size_push]
variable{P:Program}{fn:Func}{t u p:Tmp}
theorem qnh{ty:TypeId}(h:fn.results=#[.tmp t,.tmp u,.cell p ty])(tmps:Array Value)(w:World)(g:Nat)(cs:Array Value)(d:TypeDesc)(hp:tmps.getD p undef=.pointer (some ⟨g,0,none⟩))
  (hg:∀j v,cs.toList[j]?=some v->w.cell? ⟨g,j,none⟩=some v)
  (hu:P.underlying ty=some d) (hd:aggD d=true) (hi:(P.info? ty).map (·.size)=some cs.size) :
  (results fn tmps).run P w=.ok (.tuple #[tmps.getD t undef,tmps.getD u undef,.agg cs]) w:=by
 have hl:=qbl (P:=P) w g ty cs d hg hu (by cases d<;>first|rfl|cases hd) hi
 rw[Array.getD_eq_getD_getElem?]at hp;simp only[results,h];simp[hp,asAddr,hl]
theorem q1v{W:World}{g:Nat}{cs:Array Value}(h:∀(j:Nat) (v:Value),cs.toList[j]?=some v->W.cell? ⟨g,j,none⟩=some v):∀(j:Nat) (v:Value),cs.toList[j]?=some v->W.drew.cell? ⟨g,j,none⟩=some v:=h
theorem qmo{R:Ending->World->Prop}{a:Act}{w:World}{ty:TypeId}(h:fn.results=#[.tmp t,.tmp u,.cell p ty])(g:Nat)(d:TypeDesc)(hu:P.underlying ty=some d)(hd:aggD d=true)(hi:(P.info? ty).map (·.size)=some 6)
  (hp:a.tmps.getD p undef=.pointer (some ⟨g,0,none⟩)) (hs:qfn w g) (ha:a.defers=[]) (v0 v1 v2 v3 v4 v5:Value) (x y:Value) (hx:a.tmps.getD t undef=x) (hy:a.tmps.getD u undef=y) (hR:R (.returned (.tuple #[x,y,.agg #[v0,v1,v2,v3,v4,v5]])) (set6 w g v0 v1 v2 v3 v4 v5).drew):bodyPost P fn R .ret a (set6 w g v0 v1 v2 v3 v4 v5).drew:=by
 subst hx hy;exact bodyPost_ret (qnh h a.tmps _ g _ d hp (q1v (qj0 hs v0 v1 v2 v3 v4 v5)) hu hd hi) ha hR
def qez(p:Pl.Sp)(l:Int):Pl.Sp:=if l=2\/l=3 then⟨p.mode,p.tag,p.attr,p.inside,p.run,4⟩else p
variable{w:World}{B g:Nat}{F:Fix}{S:List Pl.Src}{vv:Value}{s:Pl.Sr}
theorem SeAt.obj(h:SeAt w B F S vv s):∃es clock,w.heap[F.be]?=some (.map es clock)/\es.size=s.ends.length:=by
 obtain⟨es,c,h1,h2⟩:=h.ends;refine⟨es,c,h1,?_⟩;have:=congrArg List.length h2;simpa [qnl]using this
theorem q9c{b:Nat}{es:Array MapEntry}{clock:Nat}(h:w.heap[b]?=some (.map es clock)):(Builtin.len_ #[175] 3 #[.map (some b)]).run Tryz.prog w=.ok (.int .i64 (es.size:Nat)) w:=by
 unfold Builtin.len_;simp[go_sem,run_underlying Tryz.underlying175,Go.MapKept.run_getObj_map h,Result.andThen]
theorem SeAt.len(h:SeAt w B F S vv s):(Builtin.len_ #[175] 3 #[.map (some F.be)]).run Tryz.prog w=.ok (.int .i64 (s.ends.length:Nat)) w:=by
 obtain⟨es,c,h1,h2⟩:=h.obj;rw[<-h2];exact q9c h1
def qng(w:World)(g:Nat)(a b c d:Value):World:=(((w.setCell ⟨g,5,none⟩ a).setCell ⟨g,6,none⟩ b).setCell ⟨g,7,none⟩ c).setCell ⟨g,8,none⟩ d
theorem q28{k:Nat}(h:k≠g)(a b c d:Value):(qng w g a b c d).heap[k]?=w.heap[k]?:=by
 have e:∀(w:World) (j:Nat) (v:Value),(w.setCell ⟨g,j,none⟩ v).heap[k]?=w.heap[k]?:=fun w j v=>Below.heap_setCell _ _ _ _ h;unfold qng;rw[e,e,e,e]
theorem qwu{a:World}(h:Below B a w)(hg:B<=g)(x y z u:Value):Below B a (qng w g x y z u):=
 (((h.setCell (p:=⟨g,5,none⟩) hg x).setCell (p:=⟨g,6,none⟩) hg y).setCell (p:=⟨g,7,none⟩) hg z).setCell (p:=⟨g,8,none⟩) hg u
theorem SeAt.fault(h:SeAt w B F S vv s)(f:Pl.Ft):SeAt (qng w F.g (.int .i64 f.code) (.int .i64 f.kind) (.string ⟨f.place.toArray⟩) (.int .i64 f.pos)) B F S vv { s with fault:=f }/\Cue B F w (qng w F.g (.int .i64 f.code) (.int .i64 f.kind) (.string ⟨f.place.toArray⟩) (.int .i64 f.pos)):=by
 have ha:=fun k (hk:k≠F.g)=>q28 (w:=w) hk (.int .i64 f.code) (.int .i64 f.kind) (.string ⟨f.place.toArray⟩) (.int .i64 f.pos)
 have Ha:(qng w F.g (.int .i64 f.code) (.int .i64 f.kind) (.string ⟨f.place.toArray⟩) (.int .i64 f.pos)).heap[F.g]?=some (.cells (qkj F S.length vv f) 178 (0,0)):=
  qhb (t:=178) [.int .i64 f.code,.int .i64 f.kind,.string ⟨f.place.toArray⟩,.int .i64 f.pos] w 5 [.slice (some ⟨F.bS,0,none⟩) S.length S.length,.map (some F.bp),.map (some F.be),.map (some F.bn),vv] [.int .i64 s.fault.code,.int .i64 s.fault.kind,bs s.fault.place,.int .i64 s.fault.pos] (by have:=h.blk;unfold qkj at this;simpa using this) rfl rfl
 have hb:=qwu (Below.refl B w) h.le.1 (.int .i64 f.code) (.int .i64 f.kind) (.string ⟨f.place.toArray⟩) (.int .i64 f.pos);generalize qng w F.g _ _ _ _=w' at ha Ha hb |-;refine⟨⟨Ha,h.srcKept fun k _ h1 _=>ha k h1,h.places.heap (ha _ (qak h.blk h.places).symm),h.ends.heap (ha _ h.apart.1.symm),h.le,h.apart⟩,hb,fun k _ h1 _=>ha k h1⟩
theorem qk3(S:List Pl.Src)(w:World)(B:Nat)(F:Fix)(vv:Value)(s:Pl.Sr)(e:Pl.En)(kind:Int)(pos:Nat)(h:SeAt w B F S vv s)(hi:e.1<S.length)(hB:B<=w.heap.size) :
  Calls Tryz.prog 107 #[.pointer (some ⟨F.g,0,none⟩),qf9 e,.int .i64 kind,.int .i64 pos] w fun ed w'=>(∃r,ed=.returned r)/\SeAt w' B F S vv (s.wrong S e.1 kind pos)/\Cue B F w w':=by
 obtain⟨src,ha⟩:∃src,S[e.1]?=some src:=⟨S[e.1],List.getElem?_eq_getElem hi⟩;have hP:Pl.qen S e.1=src.name:=by unfold Pl.qen;rw[ha]
 have b0:∀o,(w.alloc o).cell? ⟨F.g,0,none⟩=some (.slice (some ⟨F.bS,0,none⟩) S.length S.length):=fun o=>(h.alloc o).cell 0 _ rfl;have b1:∀o,(w.alloc o).cell? ⟨F.bS,e.1*2,none⟩=some (.string ⟨src.name.toArray⟩):=fun o=>(h.alloc o).src.name e.1 src ha;have c1:(e.1:Int)<(S.length:Int):=by omega
 have HF:Hid (∀o,SeAt (qng (w.alloc o) F.g (.int .i64 3) (.int .i64 kind) (.string ⟨src.name.toArray⟩) (.int .i64 pos)).drew B F S vv (s.wrong S e.1 kind pos)/\Cue B F w (qng (w.alloc o) F.g (.int .i64 3) (.int .i64 kind) (.string ⟨src.name.toArray⟩) (.int .i64 pos)).drew):=fun o=>by
  have hf:=SeAt.fault (h.alloc o) ⟨3,kind,Pl.qen S e.1,pos⟩;rw[hP]at hf;have h1:Cue B F w (w.alloc o):=Cue.of_below ((Below.refl w.heap.size w).alloc (Nat.le_refl _) o) hB;have h2:=h1.trans hf.2;refine⟨?_,h2.trans (Cue.of_below (Below.refl _ _).drew (Nat.le_trans hB h2.below.size))⟩;have:=hf.1.drew;unfold Pl.Sr.wrong;rw[hP];exact this
 have y5:∀o,(w.alloc o).cell? ⟨F.g,5,none⟩=some _:=fun o=>(h.alloc o).cell 5 _ rfl;have y6:∀o,(w.alloc o).cell? ⟨F.g,6,none⟩=some _:=fun o=>(h.alloc o).cell 6 _ rfl;have y7:∀o,(w.alloc o).cell? ⟨F.g,7,none⟩=some _:=fun o=>(h.alloc o).cell 7 _ rfl;have y8:∀o,(w.alloc o).cell? ⟨F.g,8,none⟩=some _:=fun o=>(h.alloc o).cell 8 _ rfl;have z5:∀o,(w.alloc o).frozen? ⟨F.g,5,none⟩=false:=fun o=>(h.alloc o).thaw 5;have z6:∀o,(w.alloc o).frozen? ⟨F.g,6,none⟩=false:=fun o=>(h.alloc o).thaw 6;have z7:∀o,(w.alloc o).frozen? ⟨F.g,7,none⟩=false:=fun o=>(h.alloc o).thaw 7;have z8:∀o,(w.alloc o).frozen? ⟨F.g,8,none⟩=false:=fun o=>(h.alloc o).thaw 8;rw[qbi];unfold qao bs;clear h hP ha;go_enter Tryz.func107,Tryz.ntmps107
 go_wp2_with fail
 go_region
 all_goals
  go_wp2_with fail
  go_end0
  unfold qng at HF;exact⟨⟨_,rfl⟩,HF.out _⟩
end Go.Proofs.YtfkhljmiehdgmaaGreatDoor
namespace Go.Proofs.YtfkhljmiehdgmaaGreatDoor
open Go.RowKit Go.Maps
variable{B:Nat}{F:Fix}{w w':World}{S:List Pl.Src}{vv:Value}{s:Pl.Sr}{M:List Nat}
def qma(l:List (Pl.En×Nat)):List (Value×Value):=l.map fun p=>(qf9 p.1,.int .i64 (p.2:Nat))
def qf7(l:List Int):List Value:=l.map fun z=>.int .i64 z
def qh9(F:Fix)(i g n:Nat):List Value:=[F.pv i,.slice (some ⟨g,0,none⟩) n n]
def qd9(F:Fix):List Nat->List (Nat×List Int)->List Value
 |g::M,v::l=>qh9 F v.1 g v.2.length++qd9 F M l
 |_,_=>[]
theorem qmr(F:Fix)(g:Nat)(v:Nat×List Int):∀(M:List Nat) (l:List (Nat×List Int)),M.length=l.length->qd9 F (M++[g]) (l++[v])=qd9 F M l++qh9 F v.1 g v.2.length
 |[],[],_=>by simp[qd9]
 |h::M,u::l,e=>by
   show qh9 F u.1 h u.2.length++qd9 F (M++[g]) (l++[v])=_;rw[qmr F g v M l (by simpa using e)];simp[qd9]
 |[],v::l,h=>by simp at h
 |g::M,[],h=>by simp at h
theorem qms(F:Fix)(f:List Int->List Int)(hf:∀l,(f l).length=l.length):∀(M:List Nat) (l:List (Nat×List Int)) (k:Nat),qd9 F M (l.modify k fun x=>(x.1,f x.2))=qd9 F M l
 |[],l,k=>by simp[qd9]
 |g::M,[],k=>by simp[qd9]
 |g::M,v::l,0=>by simp[qd9,hf]
 |g::M,v::l,k+1=>by
   show qd9 F (g::M) (v::l.modify k _)=_;show qh9 F v.1 g v.2.length++qd9 F M (l.modify k _)=_;rw[qms F f hf M l k];rfl
structure SvAt(w:World)(B:Nat)(F:Fix)(S:List Pl.Src)(vv:Value)(M:List Nat)(s:Pl.Sr):Prop where
 se:SeAt w B F S vv s
 nums:qfa w F.bn (qma s.nums)
 row:w.ownsRow B 205 2 vv s.vis.length (qd9 F M s.vis)
 len:M.length=s.vis.length
 marks:∀(i g:Nat) (v:Nat×List Int),M[i]?=some g->s.vis[i]?=some v->w.heap[g]?=some (.cells (qf7 v.2).toArray 3 (0,0))/\B<=g
 one:M.Nodup
 apart:F.bn≠F.be/\F.bn≠F.bp/\B<=F.bn
structure Cuv(B:Nat)(F:Fix)(w w':World):Prop where
 below:Below B w w'
 keep:∀k cs t fz,w.heap[k]?=some (.cells cs t fz)->k≠F.g->t≠205->t≠3->w'.heap[k]?=w.heap[k]?
theorem Cuv.refl(B:Nat)(F:Fix)(w:World):Cuv B F w w:=⟨Below.refl _ _,fun _ _ _ _ _ _ _ _=>rfl⟩
theorem Cuv.trans{a b c:World}(h:Cuv B F a b)(k:Cuv B F b c):Cuv B F a c:=
 ⟨h.below.trans k.below,fun i cs t fz hi h1 h2 h3=>(k.keep i cs t fz ((h.keep i cs t fz hi h1 h2 h3).trans hi) h1 h2 h3).trans (h.keep i cs t fz hi h1 h2 h3)⟩
theorem Cuv.of_below(h:Below w.heap.size w w')(hB:B<=w.heap.size):Cuv B F w w':=
 ⟨h.mono hB,fun k _ _ _ hk _ _ _=>h.block k (Array.getElem?_eq_some_iff.1 hk).1⟩
theorem Cuv.of_cue(h:SeAt w B F S vv s)(hc:Cue B F w w'):Cuv B F w w':=
 ⟨hc.below,fun k _ _ _ hk h1 _ _=>hc.keep k (Array.getElem?_eq_some_iff.1 hk).1 h1 (qak hk h.ends)⟩
theorem qea:(205:TypeId)≠178:=by decide
theorem qoa:(205:TypeId)≠173:=by decide
theorem qrx:(205:TypeId)≠229:=by decide
theorem qix:(205:TypeId)≠3:=by decide
theorem qgi:(3:TypeId)≠178:=by decide
theorem qr0:(3:TypeId)≠173:=by decide
theorem qwh:(3:TypeId)≠229:=by decide
theorem SvAt.kept(h:SvAt w B F S vv M s)(hs:SeAt w' B F S vv s)(hk:∀k,k<w.heap.size->(∀cs t fz,w.heap[k]?=some (.cells cs t fz)->t=205\/t=3)->k≠F.be->w'.heap[k]?=w.heap[k]?):SvAt w' B F S vv M s:=by
 refine⟨hs,?_,?_,h.len,?_,h.one,h.apart⟩
 ·obtain⟨es,c,hb,hl⟩:=h.nums
  exact⟨es,c,(hk _ h.nums.lt (fun cs t fz e=>by rw[hb]at e;cases e) h.apart.1).trans hb,hl⟩
 ·refine qac h.row fun k hv=>?_
  obtain⟨cur,hc⟩:=qad h.row k hv;exact hk k (Array.getElem?_eq_some_iff.1 hc).1 (fun cs t fz e=>by rw[hc]at e;injection e with e;injection e with _ e _;exact .inl e.symm) (qak hc h.se.ends)
 ·intro i g v hi hv
  obtain⟨h1,h2⟩:=h.marks i g v hi hv;exact⟨(hk g (Array.getElem?_eq_some_iff.1 h1).1 (fun cs t fz e=>by rw[h1]at e;injection e with e;injection e with _ e _;exact .inr e.symm) (qak h1 h.se.ends)).trans h1,h2⟩
theorem SvAt.below(h:SvAt w B F S vv M s)(hb:Below w.heap.size w w'):SvAt w' B F S vv M s:=h.kept (h.se.below hb) fun k hk _ _=>hb.block k hk
theorem SvAt.alloc(h:SvAt w B F S vv M s)(o:Obj):SvAt (w.alloc o) B F S vv M s:=h.below (ba o)
theorem SvAt.drew(h:SvAt w B F S vv M s):SvAt w.drew B F S vv M s:=h.below (Below.refl _ _).drew
theorem SvAt.turn{s':Pl.Sr}(h:SvAt w B F S vv M s)(hs:SeAt w' B F S vv s')(hc:Cue B F w w')(hn:s'.nums=s.nums)(hv:s'.vis=s.vis):SvAt w' B F S vv M s':=by
 have hk:∀k,k<w.heap.size->(∀cs t fz,w.heap[k]?=some (.cells cs t fz)->t=205\/t=3)->k≠F.be->w'.heap[k]?=w.heap[k]?:=fun k hk ht ha=>hc.keep k hk (fun e=>by
  subst e;rcases ht _ _ _ h.se.blk with q|q
  ·exact qea q.symm
  ·exact qgi q.symm) ha
 refine⟨hs,?_,?_,by rw[hv];exact h.len,?_,h.one,h.apart⟩
 ·obtain⟨es,c,hb,hl⟩:=h.nums
  rw[hn];exact⟨es,c,(hk _ h.nums.lt (fun cs t fz e=>by rw[hb]at e;cases e) h.apart.1).trans hb,hl⟩
 ·rw[hv]
  refine qac h.row fun k hv=>?_;obtain⟨cur,hc⟩:=qad h.row k hv;exact hk k (Array.getElem?_eq_some_iff.1 hc).1 (fun cs t fz e=>by rw[hc]at e;injection e with e;injection e with _ e _;exact .inl e.symm) (qak hc h.se.ends)
 ·rw[hv]
  intro i g v hi hv;obtain⟨h1,h2⟩:=h.marks i g v hi hv;exact⟨(hk g (Array.getElem?_eq_some_iff.1 h1).1 (fun cs t fz e=>by rw[h1]at e;injection e with e;injection e with _ e _;exact .inr e.symm) (qak h1 h.se.ends)).trans h1,h2⟩
theorem SvAt.far(h:SvAt w B F S vv M s){G:Nat}{x:Pl.Sx}(hG:StIn w G x)(hk:∀k,k≠G->w'.heap[k]?=w.heap[k]?):SvAt w' B F S vv M s:=
 h.kept (h.se.far hG hk) fun k _ ht _=>hk k (fun e=>by
  subst e;rcases ht _ _ _ hG with q|q
  ·exact absurd q (by decide)
  ·exact absurd q (by decide))
theorem SvAt.mark(h:SvAt w B F S vv M s){v g:Nat}(hg:M[v]?=some g)(a:Nat)(m:Int):SvAt (w.setCell ⟨g,a,none⟩ (.int .i64 m)) B F S vv M (s.mark v a m)/\Cuv B F w (w.setCell ⟨g,a,none⟩ (.int .i64 m)):=by
 have ha:∀k,k≠g->(w.setCell ⟨g,a,none⟩ (.int .i64 m)).heap[k]?=w.heap[k]?:=fun k hk=>Below.heap_setCell _ _ _ _ hk;have Hf:v<s.vis.length:=by rw[<-h.len];exact(List.getElem?_eq_some_iff.1 hg).1
 obtain⟨u,hu⟩:∃u,s.vis[v]?=some u:=⟨_,List.getElem?_eq_getElem Hf⟩;obtain⟨hb,hB⟩:=h.marks v g u hg hu;have Hb:=heap_setCell_same w g a _ _ (.int .i64 m) hb;have he:F.bn≠g:=fun e=>by
  obtain⟨es,c,hf,_⟩:=h.nums;rw[e,hb]at hf;cases hf
 have Hg:SeAt (w.setCell ⟨g,a,none⟩ (.int .i64 m)) B F S vv (s.mark v a m):=by
  obtain⟨cs',fz',hc⟩:=h.se.src.blk;refine⟨(ha _ (qae h.se.blk hb qgi.symm)).trans h.se.blk,h.se.src.kept (ha _ (qae hc hb qr0.symm)) (fun i s' q hs hv=>?_),h.se.places.heap (ha _ (qak hb h.se.places).symm),h.se.ends.heap (ha _ (qak hb h.se.ends).symm),h.se.le,h.se.apart⟩;obtain⟨cur,Hi⟩:=qad (h.se.src.row i s' hs) q hv;exact ha q (qae Hi hb qwh.symm)
 have Hc:(s.mark v a m).vis.length=s.vis.length:=by unfold Pl.Sr.mark;simp
 refine⟨⟨Hg,h.nums.heap (ha _ he),?_,by rw[Hc];exact h.len,?_,h.one,h.apart⟩,⟨(Below.refl _ _).setCell (p:=⟨g,a,none⟩) hB _,fun k cs t fz hk _ _ h3=>ha k (fun e=>by subst e;rw[hb]at hk;injection hk with hk;injection hk with _ hk _;exact h3 hk.symm)⟩⟩
 ·rw[Hc]
  have e:qd9 F M (s.mark v a m).vis=qd9 F M s.vis:=qms F (fun l=>l.set a m) (by simp) M s.vis v;rw[e];refine qac h.row fun k hk=>ha k ?_;obtain⟨cur,hc⟩:=qad h.row k hk;exact qae hc hb qix
 ·intro i g' v' hi Ha
  have Ha:(s.vis.modify v fun x=>(x.1,x.2.set a m))[i]?=some v':=Ha;rw[List.getElem?_modify]at Ha;by_cases He:v=i
  ·subst He
   rw[hg]at hi;obtain rfl:=Option.some.inj hi;rw[hu]at Ha;simp only[if_true,Option.map_eq_map,Option.map_some,Option.some.injEq]at Ha;subst Ha;refine⟨?_,hB⟩;rw[Hb];simp[qf7,List.map_set]
  ·obtain⟨v0,e1,e2⟩:∃v0,s.vis[i]?=some v0/\v0=v':=by
    cases hq:s.vis[i]? with
    |none=>rw[hq]at Ha;cases Ha
    |some v0=>rw[hq]at Ha;simp[He]at Ha;exact⟨v0,rfl,Ha⟩
   subst e2;obtain⟨h1,h2⟩:=h.marks i g' v0 hi e1;refine⟨(ha g' (fun e=>?_)).trans h1,h2⟩;subst e;have hj:=(List.getElem?_eq_some_iff.1 hi).1;exact He ((List.getElem?_inj (List.getElem?_eq_some_iff.1 hg).1 h.one).1 (hg.trans hi.symm))
variable{l:List (Pl.En×Nat)}{n bn B:Nat}{w w' w0:World}{F:Fix}{S:List Pl.Src}{vv:Value}{s:Pl.Sr}{M:List Nat}
structure NumsOk(n:Nat)(l:List (Pl.En×Nat)):Prop where
 key:∀p∈l,Pl.SxFit p.1.2/\p.1.1<n
 one:Pl.qjl l
theorem qsh{i:Nat}{p:Value×Value}(h:(qma l)[i]?=some p):∃q,l[i]?=some q/\p=(qf9 q.1,.int .i64 (q.2:Nat)):=by
 unfold qma at h;rw[List.getElem?_map]at h;obtain⟨q,h1,h2⟩:=Option.map_eq_some_iff.1 h;exact⟨q,h1,h2.symm⟩
theorem qlg(h:NumsOk n l)(hn:n<=7):KeysOk Tryz.prog 180 (qma l):=by
 refine⟨fun p hp=>?_,fun i j p q hi hj ha=>?_⟩
 ·obtain⟨i,hi⟩:=List.getElem?_of_mem hp
  obtain⟨r,h1,rfl⟩:=qsh hi;have:=h.key r (List.mem_of_getElem? h1);exact qrb this.1.ok this.1.far (by omega)
 ·obtain⟨a,h1,rfl⟩:=qsh hi
  obtain⟨b,h2,rfl⟩:=qsh hj;exact h.one i j a b h1 h2 (qje ha)
theorem qui{e:Pl.En}(h:Pl.qa1 l e=none):∀p∈qma l,p.1≠qf9 e:=by
 intro p hp;unfold qma at hp;obtain⟨q,h1,rfl⟩:=List.mem_map.1 hp;exact fun x=>Pl.qin h q h1 (qje x)
theorem qoy(h:qfa w bn (qma l))(ho:NumsOk n l)(hn:n<=7)(e:Pl.En)(he:Pl.SxFit e.2)(hi:e.1<=6) :
  (Instr.lookup 176 (.map (some bn)) (qf9 e) false).run Tryz.prog w=.ok (.int .i64 ((Pl.qa1 l e).getD 0:Nat)) w:=by
 obtain⟨kl,ha⟩:=qrb he.ok he.far hi;cases hg:Pl.qa1 l e with
 |none=>exact qif qeh Tryz.underlying176 (qze w) h (qlg ho hn) ha (qui hg) false
 |some x=>exact qhl qeh Tryz.underlying176 h (qlg ho hn) ha (List.mem_map.2 ⟨(e,x),Pl.qe6 hg,rfl⟩) false
theorem q04(h:qfa w bn (qma l))(ho:NumsOk n l)(hn:n<=7)(e:Pl.En)(he:Pl.SxFit e.2)(hi:e.1<=6)(v:Nat) :
  ∃w',(Instr.mapUpdate 176 (.map (some bn)) (qf9 e) (.int .i64 v)).run Tryz.prog w=.ok () w'/\qfa w' bn (qma (Pl.qa5 l e v))/\w.grownBy w' (some bn)/\w'.heap.size=w.heap.size:=by
 obtain⟨kl,ha⟩:=qrb he.ok he.far hi;cases hg:Pl.qa1 l e with
 |none=>
   obtain⟨w',h1,h2,h3,h4⟩:=qie (val:=.int .i64 v) qeh Tryz.underlying176 h (qlg ho hn) ha (qui hg);refine⟨w',h1,?_,h3,h4⟩;rw[Pl.qek hg];unfold qma at h2 |-;rw[List.map_append];exact h2
 |some y=>
   obtain⟨i,i1,i2⟩:=Pl.qhw hg v;obtain⟨w',h1,h2,h3,h4⟩:=qj5 (val:=.int .i64 v) (v:=.int .i64 (y:Nat)) qeh Tryz.underlying176 h (qlg ho hn) ha i (by unfold qma;rw[List.getElem?_map,i1];rfl);refine⟨w',h1,?_,h3,h4⟩;rw[i2];unfold qma at h2 |-;rw[List.map_set];exact h2
theorem q1i:(Tryz.prog.info? 205).map (fun i=>(i.zero,i.size,i.bytes))=some (some (.agg #[.slice none 0 0,.slice none 0 0]),2,48):=by kernel_rfl
theorem qwg:(Value.agg #[.slice none 0 0,.slice none 0 0]).cells.size=2:=rfl
structure Vis1(w wx:World)(B:Nat)(F:Fix)(S:List Pl.Src)(vv:Value)(M:List Nat)(s:Pl.Sr)(e:Pl.En)(n gV gM:Nat):Prop where
 sv:SvAt wx B F S vv M s
 ent:wx.heap[w.heap.size]?=some (.cells (qao e) 180 (0,0))
 vis:wx.heap[gV]?=some (.cells #[F.pv e.1,.slice (some ⟨gM,0,none⟩) n n] 205 (0,0))
 mks:wx.heap[gM]?=some (.cells (qf7 (List.replicate n 0)).toArray 3 (0,0))
 old:w.heap.size<=gV/\w.heap.size<=gM
 below:Below w.heap.size w wx
theorem qq1(n:Nat):madeCells #[Value.int .i64 0] n=(qf7 (List.replicate n 0)).toArray:=by
 apply Array.ext';rw[toList_madeCells_one];simp[qf7]
theorem SeAt.mapOther(h:SeAt w B F S vv s){b:Nat}{L:List (Value×Value)}(hm:qfa w b L)(h1:b≠F.be)(h2:b≠F.bp)(hg:w.grownBy w' (some b)):SeAt w' B F S vv s:=by
 have hk:∀k,k<w.heap.size->k≠b->w'.heap[k]?=w.heap[k]?:=fun k hk Ha=>hg.block k hk (fun e=>Ha (Option.some.inj e));obtain⟨cs',fz',hc⟩:=h.src.blk;refine⟨(hk _ (lta h.blk) (qak h.blk hm)).trans h.blk,h.src.kept (hk _ (Array.getElem?_eq_some_iff.1 hc).1 (qak hc hm)) (fun i s' q hs hv=>?_),h.places.heap (hk _ h.places.lt h2.symm),h.ends.heap (hk _ h.ends.lt h1.symm),h.le,h.apart⟩;obtain⟨cur,ha⟩:=qad (h.src.row i s' hs) q hv;exact hk q (Array.getElem?_eq_some_iff.1 ha).1 (qak ha hm)
theorem SvAt.numsPut(h:SvAt w B F S vv M s){l:List (Pl.En×Nat)}(hm:qfa w' F.bn (qma l))(hg:w.grownBy w' (some F.bn)):SvAt w' B F S vv M { s with nums:=l }/\Cuv B F w w':=by
 have hk:∀k,k<w.heap.size->k≠F.bn->w'.heap[k]?=w.heap[k]?:=fun k hk hb=>hg.block k hk (fun e=>hb (Option.some.inj e));have ha:=h.se.mapOther h.nums h.apart.1 h.apart.2.1 hg;refine⟨⟨⟨ha.blk,ha.src,ha.places,ha.ends,ha.le,ha.apart⟩,hm,?_,h.len,?_,h.one,h.apart⟩,⟨⟨hg.os,hg.tape,hg.output,hg.size,fun k hk=>hg.block k (by have:=h.nums.lt;have:=h.apart.2.2;omega) (fun x=>by have:=Option.some.inj x;have:=h.apart.2.2;omega)⟩,fun k cs t fz Ha _ _ _=>hk k (Array.getElem?_eq_some_iff.1 Ha).1 (qak Ha h.nums)⟩⟩
 ·refine qac h.row fun k hv=>?_
  obtain⟨cur,hc⟩:=qad h.row k hv;exact hk k (Array.getElem?_eq_some_iff.1 hc).1 (qak hc h.nums)
 ·intro i g v hi hv
  obtain⟨h1,h2⟩:=h.marks i g v hi hv;exact⟨(hk g (Array.getElem?_eq_some_iff.1 h1).1 (qak h1 h.nums)).trans h1,h2⟩
theorem SvAt.visit{vv':Value}(h:SvAt w B F S vv M s)(He:Below w.heap.size w w0){i g n:Nat}(hg:w.heap[g]?=some (Obj.cells (qf7 (List.replicate n 0)).toArray 3 (0,0)))(Hj:B<=g)(Hk:g∉M)(hf:w'.ownsRow B 205 2 vv' (s.vis.length+1) (qd9 F M s.vis++qh9 F i g n))(he:w0.grownBy w' vv.ownBlock) :
  SvAt (w'.setCell ⟨F.g,4,none⟩ vv') B F S vv' (M++[g]) { s with vis:=s.vis++[(i,List.replicate n 0)] }/\Cuv B F w (w'.setCell ⟨F.g,4,none⟩ vv'):=by
 have Ha:∀(k:Nat) (cs:Array Value) (t:TypeId) (fz:Nat×Nat),w.heap[k]?=some (.cells cs t fz)->t≠205->w'.heap[k]?=w.heap[k]?:=fun k cs t fz hk ht=>by
  have hi:=(Array.getElem?_eq_some_iff.1 hk).1;refine(he.block k (Nat.lt_of_lt_of_le hi He.size) (fun e=>?_)).trans (He.block k hi);obtain⟨cur,hc⟩:=qad h.row k e.symm;exact qae hk hc ht rfl
 have Hc:∀b L,qfa w b L->w'.heap[b]?=w.heap[b]?:=fun b L hm=>by
  refine(he.block b (Nat.lt_of_lt_of_le hm.lt He.size) (fun e=>?_)).trans (He.block b hm.lt);obtain⟨cur,hc⟩:=qad h.row b e.symm;exact qak hc hm rfl
 have Hb:∀k,k≠F.g->(w'.setCell ⟨F.g,4,none⟩ vv').heap[k]?=w'.heap[k]?:=fun k hk=>Below.heap_setCell _ _ _ _ hk;have Hi:=(Ha _ _ _ _ h.se.blk qea.symm).trans h.se.blk;obtain⟨cs',fz',hc⟩:=h.se.src.blk;refine⟨⟨⟨?_,?_,?_,?_,h.se.le,h.se.apart⟩,?_,?_,?_,?_,?_,h.apart⟩,⟨?_,?_⟩⟩
 ·rw[heap_setCell_same _ _ _ _ _ _ Hi]
  simp[qkj]
 ·refine h.se.src.kept ((Hb _ (qae hc h.se.blk qiu.symm)).trans (Ha _ _ _ _ hc qoa.symm)) fun i' s' q hs hv=>?_
  obtain⟨cur,Hf⟩:=qad (h.se.src.row i' s' hs) q hv;exact(Hb _ (qae Hf h.se.blk qj3.symm)).trans (Ha _ _ _ _ Hf qrx.symm)
 ·exact h.se.places.heap ((Hb _ (qak h.se.blk h.se.places).symm).trans (Hc _ _ h.se.places))
 ·exact h.se.ends.heap ((Hb _ (qak h.se.blk h.se.ends).symm).trans (Hc _ _ h.se.ends))
 ·exact h.nums.heap ((Hb _ (qak h.se.blk h.nums).symm).trans (Hc _ _ h.nums))
 ·show World.ownsRow _ _ _ _ _ (s.vis++[_]).length _
  rw[List.length_append,qmr F g _ M s.vis h.len,show(List.replicate n (0:Int)).length=n by simp];refine qac hf fun k hk=>Hb k ?_;obtain⟨cur,Hf⟩:=qad hf k hk;exact qae Hf Hi qea
 ·simp[h.len]
 ·intro j g' v hj hv
  rw[List.getElem?_append]at hj;have hv:(s.vis++[(i,List.replicate n 0)])[j]?=some v:=hv;rw[List.getElem?_append,<-h.len]at hv;split at hj
  ·rename_i Hg
   rw[if_pos Hg]at hv;obtain⟨h1,h2⟩:=h.marks j g' v hj hv;exact⟨((Hb g' (qae h1 h.se.blk qgi)).trans (Ha _ _ _ _ h1 qix.symm)).trans h1,h2⟩
  ·rename_i Hg
   rw[if_neg Hg]at hv;have hl:j - M.length=0:=by
    have:=(List.getElem?_eq_some_iff.1 hj).1;simp at this;omega
   rw[hl]at hj hv;simp only[List.getElem?_cons_zero,Option.some.injEq]at hj hv;subst hj hv;exact⟨((Hb _ (qae hg h.se.blk qgi)).trans (Ha _ _ _ _ hg qix.symm)).trans hg,Hj⟩
 ·rw[List.nodup_append]
  exact⟨h.one,by simp,fun a ha b hb e=>by simp at hb;subst hb e;exact Hk ha⟩
 ·have h1:=h.se.le.1
  have h2:=(lta h.se.blk);exact Below.trans (He.mono (by omega)) (Below.trans ⟨he.os,he.tape,he.output,he.size,fun k hk=>he.block k (by have:=He.size;omega) (fun e=>by have:=(h.row.lt k e.symm).1;omega)⟩ ((Below.refl _ _).setCell (p:=⟨F.g,4,none⟩) h.se.le.1 _))
 ·intro k cs t fz hk h1 h2 _
  exact(Hb k h1).trans (Ha k cs t fz hk h2)
theorem SvAt.ahead(h:SvAt w B F S vv M s)(ha:Below w.heap.size w w0)(Hb:w0.grownBy w' vv.ownBlock):w'.cell? ⟨F.g,4,none⟩=some vv/\w'.frozen? ⟨F.g,4,none⟩=false:=by
 have Ha:=(lta h.se.blk);have hb:w'.heap[F.g]?=some (.cells (qkj F S.length vv s.fault) 178 (0,0)):=by
  refine(Hb.block _ (Nat.lt_of_lt_of_le Ha ha.size) (fun e=>?_)).trans ((ha.block _ Ha).trans h.se.blk);obtain⟨cur,hc⟩:=qad h.row _ e.symm;exact qae h.se.blk hc qea.symm rfl
 exact⟨qaa hb 4 _ rfl,by simp[World.frozen?,hb]⟩
end Go.Proofs.YtfkhljmiehdgmaaGreatDoor
namespace Go.Proofs.YtfkhljmiehdgmaaGreatDoor
open Go.RowKit
variable{w wr w':World}{B G R E:Nat}{F:Fix}{S:List Pl.Src}{vv:Value}{M:List Nat}{s:Pl.Sr}{y z:Pl.Sx}{e:Pl.En}
def ThrC(S:List Pl.Src)(k:Nat):Prop:=∀(w:World) (B:Nat) (F:Fix) (vv:Value) (M:List Nat) (s:Pl.Sr) (e:Pl.En),SvAt w B F S vv M s->Pl.Pre S s e->258<=s.nums.length+k->TabB B w ->
    Calls Tryz.prog 75 #[.pointer (some ⟨F.g,0,none⟩),qf9 e] w fun ed w'=>(∃r,ed=.returned r)/\(∃vv' ext,SvAt w' B F S vv' (M++ext) (Pl.qfs S k s e))/\Cuv B F w w'
structure Nmi(w wr:World)(B:Nat)(F:Fix)(S:List Pl.Src)(vv:Value)(M:List Nat)(s:Pl.Sr)(G:Nat)(y:Pl.Sx)(R:Nat)(z:Pl.Sx)(E:Nat)(e:Pl.En):Prop where
 sv:SvAt wr B F S vv M s
 end':StIn wr G y
 res:StIn wr R z
 ne:G≠R
 ent:wr.heap[E]?=some (.cells (qao e) 180 (0,0))
 old:w.heap.size<=R/\B<=w.heap.size
 cuv:Cuv B F w wr
 tabs:TabB B wr
theorem Nmi.below(h:Nmi w wr B F S vv M s G y R z E e)(hb:Below wr.heap.size wr w'):Nmi w w' B F S vv M s G y R z E e:=
 have hB:B<=wr.heap.size:=Nat.le_trans h.old.2 h.cuv.below.size
 ⟨h.sv.below hb,h.end'.below hb,h.res.below hb,h.ne,(hb.block _ (Array.getElem?_eq_some_iff.1 h.ent).1).trans h.ent,h.old,h.cuv.trans (Cuv.of_below hb hB),h.tabs.kept (hb.mono hB)⟩
theorem Nmi.alloc(h:Nmi w wr B F S vv M s G y R z E e)(o:Obj):Nmi w (wr.alloc o) B F S vv M s G y R z E e:=h.below (ba o)
theorem Nmi.drew(h:Nmi w wr B F S vv M s G y R z E e):Nmi w wr.drew B F S vv M s G y R z E e:=h.below (Below.refl _ _).drew
theorem Nmi.turn{vv':Value}{M':List Nat}{s':Pl.Sr}(h:Nmi w wr B F S vv M s G y R z E e)(hs:SvAt w' B F S vv' M' s')(hc:Cuv B F wr w'):Nmi w w' B F S vv' M' s' G y R z E e:=by
 have k1:=hc.keep G _ _ _ h.end' (qae h.end' h.sv.se.blk qb1) (by decide) (by decide);have k2:=hc.keep R _ _ _ h.res (qae h.res h.sv.se.blk qb1) (by decide) (by decide);have k3:=hc.keep E _ _ _ h.ent (qae h.ent h.sv.se.blk qb2) (by decide) (by decide);exact⟨hs,k1.trans h.end',k2.trans h.res,h.ne,k3.trans h.ent,h.old,h.cuv.trans hc,h.tabs.kept hc.below⟩
theorem Nmi.set(h:Nmi w wr B F S vv M s G y R z E e)(x:Pl.Sx):Nmi w (qcs wr R (.int .u8 (x.st.mode:Int)) (.string ⟨x.st.name.toArray⟩) (.string ⟨x.st.elem.toArray⟩) (.int .i64 x.st.kind) (.int .i64 (x.st.read:Int)) (.bool x.ma.ref) (.bool x.st.esc) (.int .i64 x.ma.hex) (.int .i64 x.ma.pct) (.int .i64 x.ma.far)) B F S vv M s G y R x E e:=by
 have ha:=fun k (hk:k≠R)=>qgy (w:=wr) hk (.int .u8 (x.st.mode:Int)) (.string ⟨x.st.name.toArray⟩) (.string ⟨x.st.elem.toArray⟩) (.int .i64 x.st.kind) (.int .i64 (x.st.read:Int)) (.bool x.ma.ref) (.bool x.st.esc) (.int .i64 x.ma.hex) (.int .i64 x.ma.pct) (.int .i64 x.ma.far);have Ha:Below R wr (qcs wr R (.int .u8 (x.st.mode:Int)) (.string ⟨x.st.name.toArray⟩) (.string ⟨x.st.elem.toArray⟩) (.int .i64 x.st.kind) (.int .i64 (x.st.read:Int)) (.bool x.ma.ref) (.bool x.st.esc) (.int .i64 x.ma.hex) (.int .i64 x.ma.pct) (.int .i64 x.ma.far)):=qei (Below.refl _ _) (Nat.le_refl _) _ _ _ _ _ _ _ _ _ _;have hs:=h.res.set x;generalize qcs wr R _ _ _ _ _ _ _ _ _ _=w' at ha Ha hs |-;have hB:=Ha.mono (Nat.le_trans h.old.2 h.old.1);refine⟨h.sv.far h.res ha,(ha _ h.ne).trans h.end',hs,h.ne,(ha _ (qae h.ent h.res qhk)).trans h.ent,h.old,⟨h.cuv.below.trans hB,fun k cs t fz hk h1 h2 h3=>(ha k (fun e=>?_)).trans (h.cuv.keep k cs t fz hk h1 h2 h3)⟩,h.tabs.kept hB⟩;have:=(Array.getElem?_eq_some_iff.1 hk).1;have:=h.old.1;omega
theorem Nmi.post{ext:List Nat}(h:Nmi w wr B F S vv (M++ext) s G y R z E e){a:Act}{n:Int}(h6:a.tmps.getD 6 undef=.int .i64 n)(hp:a.tmps.getD 7 undef=.pointer (some ⟨R,0,none⟩))(hd:a.defers=[]) :
  bodyPost Tryz.prog Tryz.f110 (fun ed w'=>ed=.returned (.tuple #[.int .i64 n,qap z])/\(∃vv' ext',SvAt w' B F S vv' (M++ext') s)/\Cuv B F w w') .ret a wr:=by
 refine bodyPost_ret ?_ hd (⟨rfl,⟨vv,ext,h.sv⟩,h.cuv⟩:_/\_);have hl:=qbl (P:=Tryz.prog) wr R 162 (qaf z) _ (qaa h.res) Tryz.underlying162 rfl (by kernel_rfl);rw[Array.getD_eq_getD_getElem?]at h6 hp;simp only[results,Tryz.results110];simp[h6,hp,asAddr,hl];rfl
theorem qyg(S:List Pl.Src)(hS:SrcsOk S)(w:World)(B:Nat)(F:Fix)(vv:Value)(s:Pl.Sr)(n:List UInt8)(x:Pl.Sx)(h:SeAt w B F S vv s)(ho:Pl.EndsOk S.length s.ends)(hx:Pl.SxFit x)(hn:n.length<=2000)(hB:B<=w.heap.size)(ht:TabB B w)(h0:Pl.qai S n≠0)(hy:Pl.qa1 s.ends (Pl.qai S n,x)=none)(hf:s.ends.length=256) :
  Calls Tryz.prog 156 #[.pointer (some ⟨F.g,0,none⟩),.string ⟨n.toArray⟩,qap x] w fun ed w'=>ed=.returned (qap Pl.Sx.none)/\SeAt w' B F S vv { s with fault:=Pl.qq6 }/\Cue B F w w':=by
 have b1:∀o o',((w.alloc o).alloc o').cell? ⟨F.g,1,none⟩=some (.map (some F.bp)):=fun o o'=>((h.alloc o).alloc o').cell 1 _ rfl;have b2:∀o o' o'',(((w.alloc o).alloc o').alloc o'').cell? ⟨F.g,1,none⟩=some (.map (some F.bp)):=fun o o' o''=>(((h.alloc o).alloc o').alloc o'').cell 1 _ rfl;have l1:=fun o o'=>((h.alloc o).alloc o').drew.place hS n (by omega);have l2:=fun o o' o''=>(((h.alloc o).alloc o').alloc o'').drew.place hS n (by omega);have ha:Pl.qai S n<=6:=by have:=Pl.qe4 S n h0;have:=hS.few;omega
 have HI:=hd (qji (x:=x) h hB ht (Pl.qai S n));generalize hi:Pl.qai S n=i at *;have i0:((i:Int)==0)=false:=by rw[beq_eq_false_iff_ne];omega
 generalize (⟨n.toArray⟩:ByteArray)=N at l1 l2 |-;rw[qdz]at HI;unfold qao qaf bs at HI;unfold qap;rw[qdz];unfold qaf bs;clear h;have HY:=hd hy;clear hy;go_enter Tryz.func156,Tryz.ntmps156
 go_wp2_with fail
 go_region
 go_wp2_with fail
 clear b1 b2 l1 l2;generalize World.drew _=w3 at HI |-;have l3:=HI.out.se.drew.look hS ho (i,x) hx ha true;have l4:=fun o=>(HI.out.se.alloc o).drew.look hS ho (i,x) hx ha true;rw[HY.out]at l3 l4;have b1:w3.cell? ⟨F.g,2,none⟩=some (.map (some F.be)):=HI.out.se.cell 2 _ rfl;have b2:∀o,(w3.alloc o).cell? ⟨F.g,2,none⟩=some (.map (some F.be)):=fun o=>(HI.out.se.alloc o).cell 2 _ rfl;have he:=qcn HI.out.ent;have hg:=fun o=>qcn (HI.out.alloc o).ent;unfold qao bs at he hg;have hr:=fun o=>(HI.out.alloc o).res;have m0:=he 0 _ rfl;have m1:=he 1 _ rfl;have m2:=he 2 _ rfl;have m3:=he 3 _ rfl;have m4:=he 4 _ rfl;have m5:=he 5 _ rfl;have m6:=he 6 _ rfl;have m7:=he 7 _ rfl;have m8:=he 8 _ rfl;have m9:=he 9 _ rfl;have m10:=he 10 _ rfl;have n0:=fun o=>hg o 0 _ rfl;have n1:=fun o=>hg o 1 _ rfl;have n2:=fun o=>hg o 2 _ rfl;have n3:=fun o=>hg o 3 _ rfl;have n4:=fun o=>hg o 4 _ rfl;have n5:=fun o=>hg o 5 _ rfl;have n6:=fun o=>hg o 6 _ rfl;have n7:=fun o=>hg o 7 _ rfl;have n8:=fun o=>hg o 8 _ rfl;have n9:=fun o=>hg o 9 _ rfl;have n10:=fun o=>hg o 10 _ rfl;clear he hg hr;simp only[Option.getD_none,Option.isSome_none,if_true,qbi]at l3 l4;unfold qap qao at l3 l4;simp only[qdz]at l3 l4;unfold bs at l3 l4;go_region
 have H4:=(show Hid _ from(HI.out.alloc (.cells (qaf Pl.Sx.none) 162)).drew);rw[qdz]at H4;clear l3 l4 b1 b2 m0 m1 m2 m3 m4 m5 m6 m7 m8 m9 m10 n0 n1 n2 n3 n4 n5 n6 n7 n8 n9 n10;generalize World.drew _=w4 at H4 |-;have hl:=H4.out.se.len;rw[hf]at hl;have b1:w4.cell? ⟨F.g,2,none⟩=some (.map (some F.be)):=H4.out.se.cell 2 _ rfl;have y5:w4.cell? ⟨F.g,5,none⟩=some _:=H4.out.se.cell 5 _ rfl;have y6:w4.cell? ⟨F.g,6,none⟩=some _:=H4.out.se.cell 6 _ rfl;have y7:w4.cell? ⟨F.g,7,none⟩=some _:=H4.out.se.cell 7 _ rfl;have y8:w4.cell? ⟨F.g,8,none⟩=some _:=H4.out.se.cell 8 _ rfl;have z5:=H4.out.se.thaw 5;have z6:=H4.out.se.thaw 6;have z7:=H4.out.se.thaw 7;have z8:=H4.out.se.thaw 8;have hr:=H4.out.res;have Ha:F.g≠w.heap.size+1:=qae H4.out.se.blk hr qb1.symm;have r0:=hr.at'.mode;have r1:=hr.at'.name;have r2:=hr.at'.elem;have r3:=hr.at'.kind;have r4:=hr.at'.read;have r5:=hr.at'.ref;have r6:=hr.at'.esc;have r7:=hr.at'.hex;have r8:=hr.at'.pct;have r9:=hr.at'.far;have f0:=hr.slot.thaw 0;have f1:=hr.slot.thaw 1;have f2:=hr.slot.thaw 2;have f3:=hr.slot.thaw 3;have f4:=hr.slot.thaw 4;have f5:=hr.slot.thaw 5;have f6:=hr.slot.thaw 6;have f7:=hr.slot.thaw 7;have f8:=hr.slot.thaw 8;have f9:=hr.slot.thaw 9;clear hr;have HF:Hid (Bhi w (qcs (qng w4 F.g (.int .i64 3) (.int .i64 0) (.string ⟨#[]⟩) (.int .i64 0)) (w.heap.size+1) (.int .u8 0) (.string ⟨#[]⟩) (.string ⟨#[]⟩) (.int .i64 0) (.int .i64 0) (.bool false) (.bool false) (.int .i64 0) (.int .i64 0) (.int .i64 0)) B F S vv { s with fault:=Pl.qq6 } (w.heap.size+1+1) (w.heap.size+1) (i,x) Pl.Sx.none):=by
  have hf:=SeAt.fault H4.out.se Pl.qq6;exact(H4.out.turn hf.1 hf.2).set Pl.Sx.none
 unfold qcs qng at HF;go_wp2_with fail
 refine HF.out.post ?_ ?_
 ·rfl
 ·rfl
theorem qrm.kept{v:Value}{w w':World}{l:List (List UInt8×Int)}(h:qrm v w l)(hb:Below w.heap.size w w'):qrm v w' l:=by
 rcases h with h|⟨g,hv,hc⟩
 ·exact .inl h
 ·refine .inr ⟨g,hv,fun k r hk=>?_⟩
  obtain⟨a,b⟩:=hc k r hk;have hg:g<w.heap.size:=by
   rcases Nat.lt_or_ge g w.heap.size with h'|h'
   ·exact h'
   ·simp[World.cell?,Array.getElem?_eq_none h']at a
  exact⟨(hb.cell (p:=⟨g,k*2,none⟩) hg).trans a,(hb.cell (p:=⟨g,k*2+1,none⟩) hg).trans b⟩
theorem qys{m k:Nat}{b:UInt8}{r:List UInt8×Int}(hr:(Pl.qe3 m)[k]?=some r)(hn:((Pl.qe3 m).take k).find? (Pl.qgz b)=none)(h:Pl.qgz b r=true):Pl.tgt m b=r.2:=by
 unfold Pl.tgt;rw[Pl.qnp _ k r hr hn h]
theorem qyr{m k:Nat}{b:UInt8}(hk:(Pl.qe3 m).length<=k)(hn:((Pl.qe3 m).take k).find? (Pl.qgz b)=none):Pl.tgt m b=m:=by
 rw[List.take_of_length_le hk]at hn;unfold Pl.tgt;rw[hn]
theorem qqm:∀m,m<=33->(Pl.qe3 m).length<=5/\∀r∈Pl.qe3 m,r.1.length<=60:=by decide +kernel
theorem qwl(m:Nat)(b:UInt8)(w:World)(hm:m<=33)(Hc:20<=m) :
  Calls Tryz.prog 170 #[.int .i64 m,.int .u8 b.toNat] w fun e w'=>e=.returned (.int .i64 (Pl.tgt m b))/\Below w.heap.size w w':=by
 have Ha:=qqm m hm;have HT:=hd (fun(k:Nat) (r:List UInt8×Int)=>@qys m k b r);have hb:=hd (fun(k:Nat)=>@qyr m k b);generalize Pl.tgt m b=T at HT hb |-;have hi:(20:Int)<=(m:Int):=by omega
 have Hf:Pl.qe3 m=Pl.qll m:=by unfold Pl.qe3;rw[if_pos Hc]
 go_enter Tryz.func170,Tryz.ntmps170
 go_wp2_with fail
 refine(qm4 m hm _).mono ?_;rintro e w1 ⟨v0,rfl,_,He⟩;go_wp2_with fail
 refine(qsv m Hc hm _).mono ?_;rintro e w2 ⟨v,rfl,hv,hg⟩;have hw:=He.trans (hg.mono He.size);rw[<-Hf]at hv;clear He hg Hf hi Hc;generalize Pl.qe3 m=L at hv Ha HT hb;have hL:=Ha.1;have HL:=hd Ha.2;clear Ha;rcases hv with⟨rfl,rfl⟩|⟨g,rfl,hc⟩
 ·have HF:Hid (T=m):=hb.out 0 (Nat.le_refl _) rfl
  go_wp2_with fail
  go_loop [6] (fun i=>i=.int .i64 0) (fun _=>0)
  case atStart=>rfl
  case round=>
   subst hrel;go_wp2
   go_ret
   exact⟨qan (by rw[HF.out]),hw⟩
 ·have HC:=hd hc
  clear hc;go_wp2_with fail
  go_loop [6] (fun i=>∃k:Nat,k<=L.length/\i=.int .i64 k/\(L.take k).find? (Pl.qgz b)=none) (fun i=>L.length - (intOf i).toNat)
  case atStart=>exact⟨0,Nat.zero_le _,rfl,rfl⟩
  case round=>
   obtain⟨k,hk,rfl,hn⟩:=hrel;have HN:=hd hn;clear hn;by_cases Hg:k<L.length
   ·have hf:(k:Int)<(L.length:Int):=by omega
    obtain⟨r,hr⟩:∃r,L[k]?=some r:=⟨_,List.getElem?_eq_getElem Hg⟩;obtain⟨q0,q1⟩:=HC.out k r hr;have Hi:=HL.out r (List.mem_of_getElem? hr);have HR:=hd hr;clear hr;by_cases he:r.1=[]
    ·have Hb:(r.1==[])=true:=by rw[he];rfl
     have HV:Hid (T=r.2):=HT.out k r HR.out HN.out (by unfold Pl.qgz;rw[Hb];rfl);clear Hb;rw[he]at q0;go_wp2_with fail
     go_ret
     exact⟨qan (by rw[HV.out]),hw⟩
    ·have Hb:(r.1==[])=false:=beq_eq_false_iff_ne.2 he
     by_cases ha:Pl.among b r.1=true
     ·have HV:Hid (T=r.2):=HT.out k r HR.out HN.out (by unfold Pl.qgz;rw[ha,Bool.or_true])
      clear he;go_wp2_with (go_at_call 80;refine(qdx b _ r.1 _ rfl (by omega)).mono ?_;rintro e w' ⟨rfl,rfl⟩)
      go_ret
      exact⟨qan (by rw[HV.out]),hw⟩
     ·have ha:=Bool.eq_false_iff.2 ha
      have HX:Hid (Pl.qgz b r=false):=by show _=_;unfold Pl.qgz;rw[Hb,ha];rfl
      clear he;go_wp2_with (go_at_call 80;refine(qdx b _ r.1 _ rfl (by omega)).mono ?_;rintro e w' ⟨rfl,rfl⟩)
      go_round
      case rel=>exact⟨k+1,by omega,by go_num,Pl.qc1 _ k r HR.out HN.out HX.out⟩
      case measure=>simp[intOf];omega
   ·have HF:Hid (T=m):=hb.out k (by omega) HN.out
    have hf:decide ((k:Int)<(L.length:Int))=false:=by rw[decide_eq_false_iff_not];omega
    go_wp2
    go_ret
    exact⟨qan (by rw[HF.out]),hw⟩
theorem q0a(m:Nat)(b:UInt8)(w:World)(hm:m<=33)(He:¬ 20<=m) :
  Calls Tryz.prog 170 #[.int .i64 m,.int .u8 b.toNat] w fun e w'=>e=.returned (.int .i64 (Pl.tgt m b))/\Below w.heap.size w w':=by
 have Ha:=qqm m hm;have HT:=hd (fun(k:Nat) (r:List UInt8×Int)=>@qys m k b r);have hb:=hd (fun(k:Nat)=>@qyr m k b);generalize Pl.tgt m b=T at HT hb |-;have hi:decide ((20:Int)<=(m:Int))=false:=by rw[decide_eq_false_iff_not];omega
 have hf:Pl.qe3 m=Pl.qju m:=by unfold Pl.qe3;rw[if_neg He]
 go_enter Tryz.func170,Tryz.ntmps170
 go_wp2_with fail
 refine(qm4 m hm _).mono ?_;rintro e w1 ⟨v,rfl,hv,hw⟩;rw[<-hf]at hv;clear hf He;generalize Pl.qe3 m=L at hv Ha HT hb;have hL:=Ha.1;have HL:=hd Ha.2;clear Ha;rcases hv with⟨rfl,rfl⟩|⟨g,rfl,hc⟩
 ·have HF:Hid (T=m):=hb.out 0 (Nat.le_refl _) rfl
  go_wp2_with fail
  go_loop [6] (fun i=>i=.int .i64 0) (fun _=>0)
  case atStart=>rfl
  case round=>
   subst hrel;go_wp2
   go_ret
   exact⟨qan (by rw[HF.out]),hw⟩
 ·have HC:=hd hc
  clear hc;go_wp2_with fail
  go_loop [6] (fun i=>∃k:Nat,k<=L.length/\i=.int .i64 k/\(L.take k).find? (Pl.qgz b)=none) (fun i=>L.length - (intOf i).toNat)
  case atStart=>exact⟨0,Nat.zero_le _,rfl,rfl⟩
  case round=>
   obtain⟨k,hk,rfl,hn⟩:=hrel;have HN:=hd hn;clear hn;by_cases Hf:k<L.length
   ·have Hc:(k:Int)<(L.length:Int):=by omega
    obtain⟨r,hr⟩:∃r,L[k]?=some r:=⟨_,List.getElem?_eq_getElem Hf⟩;obtain⟨q0,q1⟩:=HC.out k r hr;have hg:=HL.out r (List.mem_of_getElem? hr);have HR:=hd hr;clear hr;by_cases he:r.1=[]
    ·have Hb:(r.1==[])=true:=by rw[he];rfl
     have HV:Hid (T=r.2):=HT.out k r HR.out HN.out (by unfold Pl.qgz;rw[Hb];rfl);clear Hb;rw[he]at q0;go_wp2_with fail
     go_ret
     exact⟨qan (by rw[HV.out]),hw⟩
    ·have Hb:(r.1==[])=false:=beq_eq_false_iff_ne.2 he
     by_cases ha:Pl.among b r.1=true
     ·have HV:Hid (T=r.2):=HT.out k r HR.out HN.out (by unfold Pl.qgz;rw[ha,Bool.or_true])
      clear he;go_wp2_with (go_at_call 80;refine(qdx b _ r.1 _ rfl (by omega)).mono ?_;rintro e w' ⟨rfl,rfl⟩)
      go_ret
      exact⟨qan (by rw[HV.out]),hw⟩
     ·have ha:=Bool.eq_false_iff.2 ha
      have HX:Hid (Pl.qgz b r=false):=by show _=_;unfold Pl.qgz;rw[Hb,ha];rfl
      clear he;go_wp2_with (go_at_call 80;refine(qdx b _ r.1 _ rfl (by omega)).mono ?_;rintro e w' ⟨rfl,rfl⟩)
      go_round
      case rel=>exact⟨k+1,by omega,by go_num,Pl.qc1 _ k r HR.out HN.out HX.out⟩
      case measure=>simp[intOf];omega
   ·have HF:Hid (T=m):=hb.out k (by omega) HN.out
    have Hc:decide ((k:Int)<(L.length:Int))=false:=by rw[decide_eq_false_iff_not];omega
    go_wp2
    go_ret
    exact⟨qan (by rw[HF.out]),hw⟩
theorem q0b(m:Nat)(b:UInt8)(w:World)(hm:m<=33) :
  Calls Tryz.prog 170 #[.int .i64 m,.int .u8 b.toNat] w fun e w'=>e=.returned (.int .i64 (Pl.tgt m b))/\Below w.heap.size w w':=by
 by_cases h:20<=m
 ·exact qwl m b w hm h
 ·exact q0a m b w hm h
end Go.Proofs.YtfkhljmiehdgmaaGreatDoor
