/-
  For every text and all partials (together of bulk at most 1048576) the statement Compiles returns true: the program's Compile answers the document's fault, or takes the template exactly when the document does; its arguments read as before. Condition: the package-level tables that the row lists hold what their texts lay (tied by the card).
-/
import Derived.Test.YtfkhljmiehdgmaaGreatDoorCmBW
import Derived.Deep.Slices
import Derived.Test.YtfkhljmiehdgmaaGreatDoorCmBJ
import Derived.Test.YtfkhljmiehdgmaaGreatDoorCmBV
import Derived.Test.YtfkhljmiehdgmaaGreatDoorCmBU
import Derived.Test.YtfkhljmiehdgmaaGreatDoorCmBT
import Derived.Test.YtfkhljmiehdgmaaGreatDoorCmAU
import Derived.Test.YtfkhljmiehdgmaaGreatDoorCmAL
set_option maxRecDepth 100000
set_option maxHeartbeats 40000000
namespace Go.Proofs.YtfkhljmiehdgmaaGreatDoor
open Go.RowKit
variable{w wr:World}{L:List (ByteArray×ByteArray)}{G A B i:Nat}{F:Pl.Ft}
def CoO(w:World)(T:ByteArray)(L:List (ByteArray×ByteArray))(e:Ending)(w':World):Prop:=
 (∃p,e=.returned (.tuple #[p,.bool true])/\(L=[]->(Pl.qe9 T.data.toList (qaq L)).2.code=0->∃a,p=.pointer (some a)))/\Below w.heap.size w w'
structure CoAt(w wr:World)(L:List (ByteArray×ByteArray))(G A B i:Nat)(F:Pl.Ft):Prop where
 below:Below w.heap.size w wr
 le:w.heap.size<=G
 row:∃C:Array Value,wr.heap[G]?=some (.cells C 38 (0,0))/\C.size=(L.length+1)*2/\∀k x,i<=k->L[k]?=some x->C.toList[k*2]?=some (.string x.1)/\C.toList[k*2+1]?=some (.string x.2)
 a:wr.heap[A]?=some (.cells #[.int .i64 F.code,.int .i64 F.kind,.string ⟨F.place.toArray⟩,.int .i64 F.pos] 31 (0,0))
 b:wr.heap[B]?=some (.cells #[.int .i64 F.code,.int .i64 F.kind,.string ⟨F.place.toArray⟩,.int .i64 F.pos] 31 (0,0))
theorem CoAt.gone(h:CoAt w wr L G A B i F)(u0 u1:Value):CoAt w ((wr.setCell ⟨G,i*2,none⟩ u0).setCell ⟨G,i*2+1,none⟩ u1) L G A B (i+1) F:=by
 obtain⟨C,h1,h2,h3⟩:=h.row;have g1:=heap_setCell_same wr G (i*2) _ _ u0 h1;have g2:=heap_setCell_same _ G (i*2+1) _ _ u1 g1;have hf:∀k,k≠G->((wr.setCell ⟨G,i*2,none⟩ u0).setCell ⟨G,i*2+1,none⟩ u1).heap[k]?=wr.heap[k]?:=fun k hk=>(Below.heap_setCell _ _ _ _ hk).trans (Below.heap_setCell _ _ _ _ hk);refine⟨(h.below.setCell (p:=⟨G,i*2,none⟩) h.le u0).setCell (p:=⟨G,i*2+1,none⟩) h.le u1,h.le,⟨_,g2,by simp[h2],fun k x hk hx=>?_⟩,(hf _ (qae h.a h1 (by decide))).trans h.a,(hf _ (qae h.b h1 (by decide))).trans h.b⟩;obtain⟨a,b⟩:=h3 k x (by omega) hx;simp only[Array.toList_setIfInBounds];rw[List.getElem?_set_ne (by omega),List.getElem?_set_ne (by omega),List.getElem?_set_ne (by omega),List.getElem?_set_ne (by omega)];exact⟨a,b⟩
theorem CoAt.drewN(h:CoAt w wr L G A B i F)(n:Nat):CoAt w (wr.drewN n) L G A B i F:=⟨qay h.below n,h.le,h.row,h.a,h.b⟩
theorem q75{g:Nat}{t:TypeId}{fz:Nat×Nat}{u0 u1 u2 u3:Value}(h:w.heap[g]?=some (.cells #[u0,u1,u2,u3] t fz)):w.cell? ⟨g,0,none⟩=some u0/\w.cell? ⟨g,1,none⟩=some u1/\w.cell? ⟨g,2,none⟩=some u2/\w.cell? ⟨g,3,none⟩=some u3:=
 ⟨qaa h 0 _ rfl,qaa h 1 _ rfl,qaa h 2 _ rfl,qaa h 3 _ rfl⟩
theorem qx9(HC:qz0)(HW:∀(T:ByteArray) (v:Value) (L:List (ByteArray×ByteArray)) (w:World),qj2 w v L->(∀p∈L,p.1.size<=1000000000)->Calls Tryz.prog 18 #[.string T,v] w fun e w'=>q5e w T L e w')
  (HD:∀(T:ByteArray) (v:Value) (L:List (ByteArray×ByteArray)) (w:World),qj2 w v L->(∀p∈L,p.1.size<=1000000000)->((tkF T L).1.code=0->∃R,q17 (tkF T L).2 (L.map (·.1)) R)->Calls Tryz.prog 28 #[.string T,v] w fun e w'=>qro w T L (Pl.qe9 T.data.toList (qaq L)).2 e w')
  (T:ByteArray) (v:Value) (L:List (ByteArray×ByteArray)) (w:World) (hA:qj2 w v L) (ht:PTabs w) (hm:qaz w) (hn:L.length<=2000000) (Hn:∀p∈L,p.1.size<=2000000) :
  Calls Tryz.prog 11 #[.string T,v] w fun e w'=>CoO w T L e w':=by
 have Hb:∀p∈L,p.1.size<=1000000000:=fun p hp=>by have:=Hn p hp;omega
 have hw:=HW T v L w hA Hb;have hp:=fun W' (hb:Below w.heap.size w W')=>q3n v L W' (hA.kept hb) hn;have Hf:=fun W' (hb:Below w.heap.size w W')=>HD T v L W' (hA.kept hb) Hb;have hc:=fun W' G (hb:Below w.heap.size w W') (hG:W'.heap[G]?=some (.cells (qej L).toArray 38 (0,0)))=>HC T (.slice (some ⟨G,0,none⟩) L.length (L.length+1)) L W' ⟨_,_,rfl,by omega,by unfold maxLen;omega,fun _=>⟨G,rfl,fun k x hx=>qaa hG _ _ (by unfold qej;rw[List.toList_toArray,List.getElem?_append_left (by rw[qbd];have:=(List.getElem?_eq_some_iff.1 hx).1;omega)];exact(qe5 L k x hx).1),fun k x hx=>qaa hG _ _ (by unfold qej;rw[List.toList_toArray,List.getElem?_append_left (by rw[qbd];have:=(List.getElem?_eq_some_iff.1 hx).1;omega)];exact(qe5 L k x hx).2)⟩⟩ (ht.kept hb) (hm.below hb) (qm0 _) (fun _ _=>qm0 _);obtain⟨ao,cap,rfl,hl,Ht,ho⟩:=hA;unfold qro at Hf;unfold CoO;generalize (Pl.qe9 T.data.toList (qaq L)).2=F at Hf hc |-;unfold qku bs at Hf hc;have hu:=hd hw;have Hu:=hd hp;have hv:=hd Hf;have Hl:=hd hc;have Hv:=hd ho;have hE:L.length<=2000000:=hn;clear hw hp Hf hc ho hl Ht ht hm hn Hn Hb;obtain⟨Q,hj⟩:∃Q:Ending->World->Prop,Q=fun e w'=>(∃p,e=.returned (.tuple #[p,.bool true])/\(L=[]->F.code=0->∃a,p=.pointer (some a)))/\Below w.heap.size w w':=⟨_,rfl⟩;rw[<-hj];have Ho:Hid (∀w',(L=[]->F.code=0->False)->Below w.heap.size w w'->Q (.returned (.tuple #[.pointer none,.bool true])) w'):=fun w' h1 h2=>by rw[hj];exact⟨⟨_,rfl,fun a b=>(h1 a b).elim⟩,h2⟩
 have Hw:Hid (∀w' a,Below w.heap.size w w'->Q (.returned (.tuple #[.pointer (some a),.bool true])) w'):=fun w' a h2=>by rw[hj];exact⟨⟨_,rfl,fun _ _=>⟨a,rfl⟩⟩,h2⟩
 clear hj;go_enter Tryz.func11,Tryz.ntmps11
 go_upto_region 2 with(go_at_call 18;refine Calls.mono hu.out ?_;rintro e w1 ⟨⟨b,rfl,Hp,hq⟩,hb⟩;have Hc:=hd hb;have Hx:=hd Hp;have hy:=hd hq;clear hb Hp hq;dsimp only)
 cases b
 rotate_left
 ·go_wp2_with fail
  exact Ho.out _ (fun h _=>hy.out trivial h) Hc.out
 go_upto_region 5 with(go_at_call 27;refine Calls.mono (Hu.out _ Hc.out) ?_;rintro e w2 ⟨rfl,hg,hb⟩;have Hg:=hd (Hc.out.trans (hb.mono Hc.out.size));have he:=hd hg;clear hg hb;dsimp only)
 have Hq:=(show Hid (w.heap.size<=w1.heap.size)from Hc.out.size);generalize w1.heap.size=G at he Hq |-;have HE:(L.length:Int)<=((L.length+1:Nat):Int):=by omega
 go_upto_region 6 with(go_at_call 12;refine Calls.mono (Hl.out _ G Hg.out he.out) ?_;rintro e w3 ⟨⟨p,rfl,hr,Hr⟩,hb⟩;have Hi:=hd hb;have Hy:=hd hr;have hz:=(show Hid (F.code=0->∃a,p=.pointer (some a))from fun h=>(Hr h).elim fun g q=>q.elim fun _ q=>q.elim fun _ q=>q.elim fun _ q=>q.elim fun _ q=>q.elim fun _ q=>⟨_,q.1⟩);clear hb hr Hr;dsimp only)
 have He:=(show Hid _ from(Hg.out.trans (Hi.out.mono Hg.out.size)).alloc (by have:=Hi.out.size;have:=Hg.out.size;omega) (.cells #[.int .i64 F.code,.int .i64 F.kind,.string ⟨F.place.toArray⟩,.int .i64 F.pos] 31));have Ha:=(show Hid _ from(heap_alloc_old w3 (.cells #[.int .i64 F.code,.int .i64 F.kind,.string ⟨F.place.toArray⟩,.int .i64 F.pos] 31) (by have:=Hi.out.size;have:=(lta he.out);omega)).trans ((Hi.out.block G (lta he.out)).trans he.out));have hf:=hd (heap_alloc_new w3 (.cells #[.int .i64 F.code,.int .i64 F.kind,.string ⟨F.place.toArray⟩,.int .i64 F.pos] 31));generalize World.alloc w3 _=w4 at He Ha hf |-;generalize w3.heap.size=FA at hf |-;clear Hi Hg he Hc;go_upto_region 7 with(go_at_call 28;refine Calls.mono (hv.out _ He.out (Hx.out rfl)) ?_;rintro e w5 ⟨⟨q,rfl,hs,Hs⟩,hb⟩;have ha:=hd hb;have Hz:=hd hs;have HA:=(show Hid (F.code=0->∃a,q=.pointer (some a))from fun h=>(Hs h).elim fun _ z=>z.elim fun _ z=>z.elim fun _ z=>z.elim fun _ z=>z.elim fun _ z=>z.elim fun _ z=>⟨_,z.2.1⟩);clear hb hs Hs;dsimp only)
 have Hj:=(show Hid (CoAt w (w5.alloc (.cells #[.int .i64 F.code,.int .i64 F.kind,.string ⟨F.place.toArray⟩,.int .i64 F.pos] 31)) L G FA w5.heap.size 0 F) from⟨(He.out.trans (ha.out.mono He.out.size)).alloc (by have:=ha.out.size;have:=He.out.size;omega) _,Hq.out,⟨_,(heap_alloc_old w5 _ (by have:=ha.out.size;have:=(lta Ha.out);omega)).trans ((ha.out.block G (lta Ha.out)).trans Ha.out),by unfold qej;simp[qbd];omega,fun k x _ hx=>by
   unfold qej;rw[List.toList_toArray,List.getElem?_append_left (by rw[qbd];have:=(List.getElem?_eq_some_iff.1 hx).1;omega),List.getElem?_append_left (by rw[qbd];have:=(List.getElem?_eq_some_iff.1 hx).1;omega)];exact qe5 L k x hx⟩,(heap_alloc_old w5 _ (by have:=ha.out.size;have:=(lta hf.out);omega)).trans ((ha.out.block FA (lta hf.out)).trans hf.out),heap_alloc_new _ _⟩)
 have hk:=(heap_alloc_old w5 (.cells #[.int .i64 F.code,.int .i64 F.kind,.string ⟨F.place.toArray⟩,.int .i64 F.pos] 31) (by have:=ha.out.size;have:=(lta Ha.out);omega)).trans ((ha.out.block G (lta Ha.out)).trans Ha.out);generalize World.alloc w5 _=w6 at Hj hk |-;generalize w5.heap.size=FB at Hj |-;have z0:=qaa hk (L.length*2) (.string ⟨#[98,101,121,111,110,100]⟩) (by unfold qej;rw[List.toList_toArray,List.getElem?_append_right (by rw[qbd];exact Nat.le_refl _),qbd,Nat.sub_self];rfl);have z1:=qaa hk (L.length*2+1) (.string ⟨#[]⟩) (by unfold qej;rw[List.toList_toArray,List.getElem?_append_right (by rw[qbd];omega),qbd,show L.length*2+1 - L.length*2=1 by omega];rfl);have hB:(L.length:Int)<((L.length+1:Nat):Int):=by omega
 clear hk ha He Ha hf;go_wp2_with fail
 clear z0 z1;go_loopw [13,14] (fun v13 v14 wr=>∃i:Nat,i<=L.length/\v13=.bool true/\v14=.int .i64 i/\Hid (CoAt w wr L G FA FB i F)) (fun _ v14 _=>L.length - (intOf v14).toNat)
 case atStart=>exact⟨0,Nat.zero_le _,rfl,rfl,Hj⟩
 case round=>
  clear Hj;obtain⟨i,hi,rfl,rfl,HC⟩:=hrel;by_cases Hk:i<L.length
  ·obtain⟨b,o,rfl,hp⟩:=Hv.out (fun e=>by rw[e]at Hk;exact absurd Hk (Nat.not_lt_zero _))
   have hx:L[i]?=some L[i]:=List.getElem?_eq_getElem Hk;obtain⟨C,hC,HB,Hm⟩:=HC.out.row;have c0:=qaa hC _ _ (Hm i _ (Nat.le_refl _) hx).1;have c1:=qaa hC _ _ (Hm i _ (Nat.le_refl _) hx).2;have f0:=frozen_of_row _ _ (i*2) _ _ hC;have f1:=frozen_of_row _ _ (i*2+1) _ _ hC;have p0:=(HC.out.below.cell (p:=⟨b,o+i*2,none⟩) (World.block_lt_of_cell? _ _ (hp.name i _ hx))).trans (hp.name i _ hx);have p1:=(HC.out.below.cell (p:=⟨b,o+i*2+1,none⟩) (World.block_lt_of_cell? _ _ (hp.text i _ hx))).trans (hp.text i _ hx);have hD:(i:Int)<(L.length:Int):=by omega
   have hF:(i:Int)<((L.length+1:Nat):Int):=by omega
   clear hp hx hC HB Hm;generalize L[i]=X at c0 c1 p0 p1;go_wp2_with fail
   go_quiet (fail)
   go_wp2_with fail
   refine⟨⟨i+1,Hk,rfl,by go_num,(HC.out.drewN _).gone _ _⟩,?_⟩;simp[intOf];omega
  ·have hD:¬(i:Int)<(L.length:Int):=by omega
   obtain⟨a0,a1,a2,a3⟩:=q75 HC.out.a;obtain⟨b0,b1,b2,b3⟩:=q75 HC.out.b;by_cases hc:F.code=0
   ·obtain⟨a,rfl⟩:=hz.out hc
    obtain⟨a',rfl⟩:=HA.out hc;clear hc;go_wp2_with fail
    exact Hw.out _ _ (HC.out.below.alloc HC.out.below.size _)
   ·obtain rfl:=Hy.out hc
    obtain rfl:=Hz.out hc;have Hl:=hd hc;clear hc;go_wp2_with fail
    exact Ho.out _ (fun _ h=>Hl.out h) HC.out.below
theorem q1d:(Pl.qe9 [60,112,62,123,123,97,125,125,60,47,112,62] []).2=Pl.Ft.none:=Pl.quk (by decide +kernel) (by decide +kernel)
def qv8:Prop:=∀(T:ByteArray) (v:Value) (L:List (ByteArray×ByteArray)) (w:World),qj2 w v L->PTabs w->qaz w->L.length<=2000000->(∀p∈L,p.1.size<=2000000)->Calls Tryz.prog 11 #[.string T,v] w fun e w'=>CoO w T L e w'
theorem qt7{fn:Func}{t u:Tmp}(h:fn.results=#[.tmp t,.tmp u])(tmps:Array Value)(P:Program)(w:World):(results fn tmps).run P w=.ok (.tuple #[tmps.getD t undef,tmps.getD u undef]) w:=by simp[results,h]
theorem qvz(w:World):qj2 w (.slice none 0 0) []:=⟨none,0,rfl,Nat.le_refl _,Nat.zero_le _,fun h=>absurd rfl h⟩
theorem q6n(HC:qv8)(w:World)(ht:PTabs w)(hm:qaz w):Calls Tryz.prog 10 #[] w fun e w'=>(∃a,e=.returned (.tuple #[.pointer (some a),.bool true]))/\Below w.heap.size w w':=by
 have h:=HC ⟨#[60,112,62,123,123,97,125,125,60,47,112,62]⟩ (.slice none 0 0) [] w (qvz w) ht hm (Nat.zero_le _) (fun p hp=>by cases hp);have h2:Calls Tryz.prog 11 #[.string ⟨#[60,112,62,123,123,97,125,125,60,47,112,62]⟩,.slice none 0 0] w fun e w'=>∃a,e=.returned (.tuple #[.pointer (some a),.bool true])/\Below w.heap.size w w':=by
  refine Calls.mono h ?_;rintro e w' ⟨⟨p,rfl,hp⟩,hb⟩;obtain⟨a,rfl⟩:=hp rfl (by show(Pl.qe9 _ []).2.code=0;rw[show(⟨#[60,112,62,123,123,97,125,125,60,47,112,62]⟩:ByteArray).data.toList=[60,112,62,123,123,97,125,125,60,47,112,62]from rfl,q1d];rfl);exact⟨a,rfl,hb⟩
 have H2:=hd h2;clear h h2 ht hm HC;go_enter Tryz.func10,Tryz.ntmps10
 go_wp2_with (go_at_call 11;refine Calls.mono H2.out ?_;rintro e w1 ⟨a,rfl,hb⟩;have HB:=hd hb;clear hb;dsimp only)
 refine bodyPost_ret (qt7 Tryz.results10 _ _ _) rfl ?_;exact⟨⟨_,rfl⟩,HB.out⟩
theorem qyj(HC:qv8)(T:ByteArray)(v:Value)(L:List (ByteArray×ByteArray))(w:World)(hA:qj2 w v L)(ht:PTabs w)(hm:qaz w)(hn:L.length<=2000000)(Hb:∀p∈L,p.1.size<=2000000) :
  Calls Tryz.prog 3 #[.string T,v] w fun e w'=>e=.returned (.bool true)/\Below w.heap.size w w':=by
 have HK:=hd (q6n HC w ht hm);have H2:=hd (fun W' (hb:Below w.heap.size w W')=>HC ⟨#[60,112,32,123,123,97,125,125,62]⟩ (.slice none 0 0) [] W' (qvz W') (ht.kept hb) (hm.below hb) (Nat.zero_le _) (fun p hp=>by cases hp));have H3:=hd (fun W' (hb:Below w.heap.size w W')=>HC T v L W' (hA.kept hb) (ht.kept hb) (hm.below hb) hn Hb);clear HC hA ht hm hn Hb;go_enter Tryz.func3,Tryz.ntmps3
 go_upto_region 2 with(go_at_call 10;refine Calls.mono HK.out ?_;rintro e w1 ⟨⟨a,rfl⟩,hb⟩;have ha:=hd hb;clear hb;dsimp only)
 go_upto_region 3 with(go_at_call 11;refine Calls.mono (H2.out _ ha.out) ?_;rintro e w2 ⟨⟨p,rfl,_⟩,hb⟩;have Ha:=hd (ha.out.trans (hb.mono ha.out.size));clear hb;dsimp only)
 go_wp2_with (go_at_call 11;refine Calls.mono (H3.out _ Ha.out) ?_;rintro e w3 ⟨⟨p,rfl,_⟩,hb⟩;have hc:=hd (Ha.out.trans (hb.mono Ha.out.size));clear hb;dsimp only)
 try go_ret
 exact⟨rfl,hc.out⟩
end Go.Proofs.YtfkhljmiehdgmaaGreatDoor
namespace Go.Proofs.YtfkhljmiehdgmaaGreatDoor
open Go.RowKit Go.ChangeShapes Go.WideShapes
theorem qow{H:Type}{d:DataW H}:∀ {l:List (DataW H)},d∈l->Rows.uptoBulk d<=Rows.uptoBulkAll l
 |e::l,h=>by
   unfold Rows.uptoBulkAll;rcases List.mem_cons.1 h with rfl|h
   ·omega
   ·have:=qow h
    omega
theorem q3m{H:Type}(d:DataW H):1<=Rows.uptoBulk d:=by
 cases d with
 |lit l=>cases l<;>simp[Rows.uptoBulk]
 |_=>simp[Rows.uptoBulk]
theorem quf{H:Type}:∀l:List (DataW H),l.length<=Rows.uptoBulkAll l
 |[]=>Nat.zero_le _
 |e::l=>by
   have:=quf l;have:=q3m e;unfold Rows.uptoBulkAll;rw[List.length_cons];omega
theorem qqw(b o j:Nat):(⟨b,o,none⟩:Addr).add j=⟨b,o+j,none⟩:=by unfold Addr.add;split<;>simp_all
theorem qp3:∃f0 f1:Field,Tryz.prog.underlying 38=some (.struct #[f0,f1])/\f0.offset=0/\f1.offset=1/\f0.type=9/\f1.type=9:=⟨_,_,Tryz.underlying38,rfl,rfl,rfl,rfl⟩
theorem qsf{H:Type}{enc:TypeId×Value->H}{w:World}{fuel:Nat}{v:Value}{x:DataW H×List MemPlace}(h:DataW.trod enc Tryz.prog w 0 (fun _=>true) true fuel 22 [v]=some x) :
  ∃L,qj2 w v L/\L.length<=Rows.uptoBulk x.1/\∀y∈L,y.1.size<=Rows.uptoBulk x.1:=by
 obtain⟨f0,f1,he,o0,o1,t0,t1⟩:=qp3;have ce:Tryz.prog.cellsOf 38=2:=by kernel_rfl
 have c0:Tryz.prog.cellsOf f0.type=1:=by rw[t0];kernel_rfl
 have c1:Tryz.prog.cellsOf f1.type=1:=by rw[t1];kernel_rfl
 rcases Deep.open_slice (e:=38) (by kernel_rfl) h with⟨Ha,hx⟩|⟨a,len,cap,m,n,D,Ps,Ha,hb,hl,hm,Hj,hx,Hk⟩
 ·injection Ha with Ha _
  exact⟨[],⟨none,0,Ha,Nat.zero_le _,Nat.zero_le _,fun h=>absurd rfl h⟩,Nat.zero_le _,fun y hy=>by cases hy⟩
 injection Ha with Ha _;have Hn:m=cap:=by rw[Hj];rfl
 have each:∀i,i<len->∃q:ByteArray×ByteArray,w.cell? (a.add (i*2))=some (.string q.1)/\w.cell? (a.add (i*2+1))=some (.string q.2)/\q.1.size<=Rows.uptoBulk (D i):=by
  intro i hi;obtain⟨cs',h1,h2⟩:=Hk i (by omega);rw[ce]at h1;obtain⟨_,Hb,ha⟩:=World.cells?_some h1;obtain⟨xs,k,hk,He,_,Hl,hf⟩:=DataW.trod_struct he h2
  match xs,Hl,cs',Hb with
  |[y0,y1],_,[v0,v1],_=>
    have g0:=hf 0 f0 rfl;have g1:=hf 1 f1 rfl;simp[o0,c0]at g0;simp[o1,c1]at g1;have e0:=ha 0 (by omega);have e1:=ha 1 (by omega);rw[Deep.add_add]at e0 e1;rw[t0]at g0;rw[t1]at g1;obtain⟨s,hs,Hf,_⟩:=DataW.trod_string Tryz.underlying9 g0;obtain⟨s',hc,ho,_⟩:=DataW.trod_string Tryz.underlying9 g1;injection hs with hs _;injection hc with hc _;subst hs hc;refine⟨(s,s'),by simpa using e0,by simpa using e1,?_⟩;simp only[Prod.mk.injEq]at He;rw[He.1];have h3:=qow (d:=y0.1) (l:=[y0,y1].map (·.1)) (by simp);rw[Hf]at h3;have h4:Rows.uptoBulk (DataW.lit (H:=H) (.string s.data.toList))=s.data.toList.length+1:=rfl;rw[h4]at h3;have h5:s.data.toList.length=s.size:=rfl;show s.size<=Rows.uptoBulkAll _+1;rw[Hf];omega
 obtain⟨q,hq⟩:=Deep.choose_lt each;refine⟨(List.range len).map q,⟨some a,cap,by rw[Ha];simp,by simp;omega,hm,fun hg=>?_⟩,?_,fun y hy=>?_⟩
 ·have Hc:0<len:=by
   rcases Nat.eq_zero_or_pos len with h|h
   ·rw[h]at hg;exact absurd rfl hg
   ·exact h
  obtain⟨b,ob,sp⟩:=a;have Hm:sp=none:=by simpa [Addr.add]using World.cell?_spot (hq 0 Hc).1
  subst Hm;have Hg:∀(k:Nat) (x:ByteArray×ByteArray),((List.range len).map q)[k]?=some x->k<len/\x=q k:=fun k x hk=>by
   rw[List.getElem?_map]at hk;obtain⟨j,hj,rfl⟩:=Option.map_eq_some_iff.1 hk;have Hi:=(List.getElem?_eq_some_iff.1 hj).1;have hn:j=k:=by rw[List.getElem?_range (by simpa using Hi)]at hj;exact(Option.some.inj hj).symm
   subst hn;exact⟨by simpa using Hi,rfl⟩
  refine⟨b,ob,rfl,fun k x hk=>?_,fun k x hk=>?_⟩
  ·obtain⟨h1,rfl⟩:=Hg k x hk
   have:=(hq k h1).1;rw[qqw]at this;exact this
  ·obtain⟨h1,rfl⟩:=Hg k x hk
   have:=(hq k h1).2.1;rw[qqw]at this;rw[Nat.add_assoc];exact this
 ·rw[hx,List.length_map,List.length_range]
  have:=quf ((List.range len).map D);rw[List.length_map,List.length_range]at this;show _<=Rows.uptoBulkAll _+Rows.uptoBulkAll _+1;omega
 ·obtain⟨j,hj,rfl⟩:=List.mem_map.1 hy
  have:=hq j (List.mem_range.1 hj);refine Nat.le_trans this.2.2 ?_;rw[hx];have h1:=qow (d:=D j) (l:=(List.range len).map D) (List.mem_map.2 ⟨j,hj,rfl⟩);show _<=Rows.uptoBulkAll _+Rows.uptoBulkAll _+1;omega
end Go.Proofs.YtfkhljmiehdgmaaGreatDoor
namespace Go.Proofs.YtfkhljmiehdgmaaGreatDoor
open Go.RowKit
theorem qx0(K:Sk)(R:List Pl.Vt)(hK:SkOk K):∀k,EndC K R k
 |0=>by
   intro w ve vW E W n x p r hc Hc ha he hb He hn Hb hf Ha hB hk hr;have:=ha.few;omega
 |k+1=>q9w K R hK k (q4q K R hK k (qx0 K R hK k))
theorem qtr(K:Sk)(hK:SkOk K):∀k,qzz K k
 |0=>by
   intro w gw ve vS v E R r j off len x p F Hc he hj Ha ha hb He Hb hf hc Hf hB hk hr;omega
 |k+1=>q2l K hK k (fun R=>qx0 K R hK _) (qtr K hK k)
theorem q5g(T:ByteArray)(v:Value)(L:List (ByteArray×ByteArray))(w:World)(hA:qj2 w v L)(ha:∀p∈L,p.1.size<=1000000000) :
  Calls Tryz.prog 18 #[.string T,v] w fun e w'=>q5e w T L e w':=q77 qv6 (fun K hK k=>qtr K hK k) T v L w hA ha
theorem q18(K:Sk)(RR:List Pl.Vt)(hK:SkOk K)(hN:Pl.nmOf K.S=K.nm)(hb:RR.length<=256)(Hb:∀u∈RR,Pl.Cm u.2/\u.1<K.N.length)(hc:∀u∈RR,K.cl RR (u.1+1) 0 u.2):∀k,WthC K RR k
 |0=>by
   intro w gw ve vS v wh E R r j off len x p hf Hf hg hj Hc Hg he hi He Hi ha Ha Hj hB hk hr;have:=Pl.qfh _ _ Ha ha;omega
 |k+1=>q76 K hK hN RR hb Hb hc k (qx0 K RR hK _) (q18 K RR hK hN hb Hb hc k)
theorem qv7(T:ByteArray)(v:Value)(L:List (ByteArray×ByteArray))(w:World)(hA:qj2 w v L)(ht:PTabs w)(hm:qaz w)(hn:L.length<=2000000)(ha:∀p∈L,p.1.size<=2000000) :
  Calls Tryz.prog 3 #[.string T,v] w fun e w'=>e=.returned (.bool true)/\Below w.heap.size w w':=
 qyj (fun T v L w hA ht hm hn ha=>qx9 (qya q1z) q5g (fun T v L w hA ha hf=>qx5 qv6 (fun K RR hK hN h1 h2 h3 k=>q18 K RR hK hN h1 h2 h3 k) T v L w hA ha hf) T v L w hA ht hm hn ha) T v L w hA ht hm hn ha
end Go.Proofs.YtfkhljmiehdgmaaGreatDoor
namespace Go.Proofs.YtfkhljmiehdgmaaGreatDoor.fnCompiles
open Go.ChangeShapes Go.WideShapes Go.ChangeAt Go.RowKit Go.WideMaps Go.WideElems
open Go.ChangeMaps (setBlock shut_map_nil open_string shut_string keptBut_setBlock frozen?_setBlock heap_setBlock_same)
theorem q7i{H:Type}{x:DataW H}{s:ByteArray}{gs:List (DataW H)}(hk:Rows.uptoSmall H ([.lit (.string s.data.toList),x]++gs)=true):Rows.uptoBulk x<=1048576:=by
 have h:Rows.uptoBulkAll ([DataW.lit (H:=H) (.string s.data.toList),x]++gs)<=1048576:=of_decide_eq_true hk;simp only[List.cons_append,List.nil_append,Rows.uptoBulkAll,Rows.uptoBulk]at h;omega
theorem contract(H:Type)(enc:TypeId×Value->H)(W:World)(base:Nat)(args:Array Value)(ds gs:List (DataW H))(before:List MemPlace)
  (ha:∀(j:Nat) t v,Tryz.f3.params[j]?=some t->args[j]?=some v->Value.okWide Tryz.prog W .any base t v)
  (hW:DataW.Whole enc Tryz.prog Tryz.f3.params.toList Rows.compilesSpec.vars false W args.toList ds gs before) (hk:Rows.uptoSmall H (ds++gs)=true) (hL:laidMetH Tryz.prog Rows.compilesRow.laid W) (hf:W.ShapedOpen Tryz.prog) :
  Calls Tryz.prog 3 args W fun e W'=>∃v,e=.returned v/\Rows.compilesSpec.post enc Tryz.prog Tryz.f3 false true false false W args v W':=by
 have Hb:=hW;obtain⟨p,q,hc,hV,rfl,Hi,hj⟩:=hW;have hA:DataW.TrodAll enc Tryz.prog W 0 (fun _=>true) true Tryz.f3.params.toList args.toList ds p:=hc;rw[Tryz.params3]at hA ha;obtain⟨v0,vs0,d0,ds0,p0,q0,Hc,rfl,rfl,h0,r0⟩:=trodAll_cons hA;obtain⟨v1,vs1,d1,ds1,p1,q1,rfl,rfl,rfl,h1,r1⟩:=trodAll_cons r0;obtain⟨rfl,rfl,rfl⟩:=trodAll_nil r1;obtain rfl:args=#[v0,v1]:=by cases args;simp_all
 obtain⟨rfl,rfl⟩:=trodVars_none hV;obtain⟨ao,ln,cp,rfl⟩:=okWide_slice (P:=Tryz.prog) (e:=38) (by kernel_rfl) (ha 1 22 _ rfl rfl);obtain⟨s,rfl,rfl,rfl,hs⟩:=open_string Tryz.underlying9 (ha 0 9 v0 rfl rfl) h0;have Hf:=h1;obtain⟨fuel,hg⟩:=h1;obtain⟨L,hR,Hg,He⟩:=qsf hg;dsimp only at Hg He;clear hc;simp only[List.append_nil]at Hb;have Hj:=q7i hk;refine(qv7 s _ L W hR (q51 hL) (q3t hf) (by omega) (fun y hy=>by have:=He y hy;omega)).mono fun e W' ⟨he,hb⟩=>?_;subst he
 have Ha:∀sp':Nat->Bool,(∀x∈p1,sp' x.block=true)->DataW.Trod enc Tryz.prog W' 0 sp' true 22 (.slice ao ln cp) d1 p1:=fun sp' hi=>
  Go.WideElems.Trod_stays (P:=Tryz.prog) (by kernel_rfl) (by kernel_rfl) (by decide +kernel) Hf (fun x hx=>hb.same (Hb.lt x (by simpa using hx))) hi
 refine⟨_,rfl,_,_,_,[],[]++(p1++[]),[],Hb,?_,?_,?_,hb.frame _,fun h=>by cases h⟩
 ·exact trodAll_cons_mk (shut_bool Tryz.underlying4 _) trodAll_mk0
 ·exact trodAll_cons_mk (shut_string Tryz.underlying9 hs) (trodAll_cons_mk (Ha _ (fun x hx=>by simpa using Hb.lt x (by simpa using hx))) trodAll_mk0)
 ·exact rfl
end Go.Proofs.YtfkhljmiehdgmaaGreatDoor.fnCompiles
namespace Go.Proofs.YtfkhljmiehdgmaaGreatDoor.fnCompiles
open Go.ChangeShapes Go.WideShapes Go.ChangeAt Go.RowKit Go.WideMaps Go.WideElems
theorem liftedUpto(os:Os)(started:os.Started)(H:Type)(enc:TypeId×Value->H)(F:Stop.Interp) :
  ReturnsInHanded {} Tryz.checked os 3 .any ((Rows.OpenSpec.upto Rows.compilesSpec).preRow enc Tryz.prog Tryz.f3 Rows.compilesUptoRow.domain false Rows.compilesUptoRow.laid) (((Rows.OpenSpec.upto Rows.compilesSpec).at F).post enc Tryz.prog Tryz.f3 false true false false):=by
 obtain⟨places,hx⟩:=za6 os enc
 refine returnsInHanded_of_row (C:=Tryz.checked) (s:=Rows.OpenSpec.upto Rows.compilesSpec) zba started (by kernel_rfl) Tryz.func3
  (qrs (enc:=enc) (C:=Tryz.checked) false (World.laidAll Tryz.prog os Rows.compilesRow.laid) #[.string .empty,.slice none 0 0] (World.laidAll_os _ _ _) (qnf os) (by kernel_rfl)
   (OpenSpec.preRow_of_cond 8 hx (by kernel_rfl) (fun k hk=>by cases hk;kernel_rfl) (by kernel_rfl) (q6m os))) ?_
 intro W base args ds gs before Ha hW _ ha _ hL hb _;exact contract H enc W base args ds gs before Ha hW (ha _ rfl) hL hb
end Go.Proofs.YtfkhljmiehdgmaaGreatDoor.fnCompiles
namespace Go.Proofs.YtfkhljmiehdgmaaGreatDoor.fnCompiles
open Go.ChangeShapes Go.WideShapes Go.ChangeAt Go.RowKit
theorem saidUpto:Rows.CompilesUptoSaid:=
 OpenClaim.holds_of_cond 3 Tryz.f3 rfl rfl rfl rfl rfl rfl rfl ⟨rfl,rfl,rfl,rfl,rfl⟩ rfl rfl rfl rfl rfl (by kernel_rfl) Tryz.func3 jf
  (of_decide_eq_true (by kernel_rfl)) (by unfold Func.isWrapper;first|(rw[if_pos (by decide +kernel)];kernel_rfl)|(rw[if_neg (by decide +kernel)];exact⟨rfl,rfl⟩))
  (fun os started H enc _ F=>by rw[OpenClaim.pre_eq_preRow];exact liftedUpto os started H enc F)
theorem plain(f:FuncId)(fn:Func)(hf:Tryz.pinned.checked.prog.funcNamed "stencil/stencillaw.Compiles"=some f)(ha:Tryz.pinned.checked.prog.funcs[f]?=some fn) :
  false=Tryz.pinned.checked.prog.looks []∧∀(j:Nat) t,fn.params[j]?=some t→Tryz.pinned.checked.prog.wantsStandIn t=false:=by
 obtain rfl:f=3:=Option.some.inj ((show Tryz.prog.funcNamed "stencil/stencillaw.Compiles"=some 3 by kernel_rfl).symm.trans hf) |>.symm;obtain rfl:fn=Tryz.f3:=(Option.some.inj (Tryz.func3.symm.trans ha)).symm;refine⟨by kernel_rfl,fun j t ht=>?_⟩;rw[Tryz.params3]at ht;have hm:t=9∨t=22:=by simpa using Array.mem_of_getElem? ht
 rcases hm with rfl|rfl
 ·exact(show Tryz.prog.wantsStandIn 9=false by kernel_rfl)
 ·exact(show Tryz.prog.wantsStandIn 22=false by kernel_rfl)
theorem cardUpto:Rows.CompilesUptoCardSaid:=
 Claim7.holds_tied_plain_at .later [] _ _ _ _ saidUpto (fun _ h=>by cases h) (by kernel_rfl) (fun _ h=>by cases h) compilesUpto_row_tie rfl ⟨rfl,rfl⟩ (by kernel_rfl) rfl plain (by kernel_rfl)
end Go.Proofs.YtfkhljmiehdgmaaGreatDoor.fnCompiles
