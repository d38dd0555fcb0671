/-
  Steps of the proof.
-/
import Derived.Test.YtfkhljmiehdgmaaGreatDoorCuBJ
import Derived.Deep.Slices
import Derived.Laws.Rows
import Derived.Test.YtfkhljmiehdgmaaGreatDoorCuBK
import Derived.Deep.CutRange
import Derived.Deep.OwnRows
import Derived.Deep.Onto
import Derived.Test.YtfkhljmiehdgmaaGreatDoorCuBG
import Derived.Test.YtfkhljmiehdgmaaGreatDoorCuBL
set_option maxRecDepth 100000
set_option maxHeartbeats 40000000
namespace Go.Proofs.YtfkhljmiehdgmaaGreatDoor
open Go.RowKit Go.Proofs.Tryz Pl
theorem qlj{P:Program}{fn:Func}{R:Ending->World->Prop}{a:Act}{w:World}{t p:Tmp}{ty:TypeId}(h:fn.results=#[.tmp t,.cell p ty])(ha:a.defers=[])(g:Nat)(x u0 u1:Value)(hx:a.tmps.getD t undef=x)(hp:a.tmps.getD p undef=zP g)
  (hb:w.heap[g]?=zK #[u0,u1] ty) (d:TypeDesc) (hu:P.underlying ty=some d) (hd:aggD d=true) (hi:(P.info? ty).map (·.size)=some 2) (hR:R (.returned (.tuple #[x,.agg #[u0,u1]])) w):bodyPost P fn R .ret a w:=by
 subst hx;refine bodyPost_ret ?_ ha hR;have hl:=qbb (P:=P) w g ty #[u0,u1] d (qaa hb) hu (by cases d<;>first|rfl|cases hd) hi
 rw[yZ]at hp;simp only[results,h];simp[hp,asAddr,hl]
theorem q4f(T:zT)(w:World)(hm:qa3 w)(hs:T.size<=2000)(hR:qd0 T.data.toList) :
  zC 74 #[.string T] w fun e w'=>(∃v,e=.returned (.tuple #[v,qg8 (qam T.data.toList).1.1 (qam T.data.toList).1.2])/\((qam T.data.toList).1.1=0->w'.ownsRow w.heap.size 229 4 v (qam T.data.toList).2.length (qbp (qam T.data.toList).2)))/\zW w w':=by
 have hl:T.data.toList.length=T.size:=by simp
 have hg:(⟨T.data.toList.toArray⟩:zT)=T:=by cases T;simp
 rw[qrg _ (by omega)];have Hg:11<w.heap.size:=by
  obtain⟨m,h⟩:=hm;exact xP _ _ h
 have hf:=fun w=>qyz T w (by omega)
 have Ha:=fun(w1:World) (hb:zW w w1)=>zgb (w1.alloc (.cells #[.string T,.string ⟨#[123,123]⟩,.string ⟨#[125,125]⟩,zN,zN] 222)) w.heap.size w1.heap.size T.data.toList Ct.start (zN) (zN)
  ⟨by rw[xG];show _=some (Obj.cells #[.string (⟨T.data.toList.toArray⟩:zT),_,_,_,_] _ _);rw[hg];rfl,World.ownsRow_nil _ _ _ _,World.ownsRow_nil _ _ _ _,hb.size⟩ (qik _) ((hm.below hb).below (zB _)) (by omega) hR Hg
 generalize Ct.start.rest T.data.toList 0=R at Ha |-;have c1:¬(2000:Int)<(T.size:Int):=by omega
 have Hf:=zH hf;have He:=zH Ha;clear hf Ha hm hR;by_cases h0:R.1.1=0
 ·have e0:(R.1.1:Int)=0:=by omega
  rw[if_pos h0];go_enter func74,ntmps74
  go_wp2_with (first
   |(go_at_call 73;refine xR (Hf.out _) ?_;rintro e w1 ⟨rfl,hb⟩;have Hb:Hid (zW w w1):=((xM w.heap.size w).alloc (yg _) _).trans (hb.mono (by simp));have Hc:Hid (w1.heap[w.heap.size]?=zK #[zI 0,zI 0] 169):=(hb.block _ (by simp)).trans (xG w _);clear hb)
   | (go_at_call 104;refine xR (He.out _ Hb.out) ?_;rintro e w2 ⟨rfl,hc,hx⟩;unfold qg8;have HC:Hid (Cur w.heap.size w1.heap.size (w1.alloc (.cells #[.string T,.string ⟨#[123,123]⟩,.string ⟨#[125,125]⟩,zN,zN] 222)) w2):=hc;obtain⟨c,vp,vo,hA,hP⟩:=hx h0;have b3:∀o,(w2.alloc o).cell? (zO w1.heap.size 3)=some vp:=fun o=>(hA.alloc o).cell 3 _ rfl;have ha:w.heap.size<w1.heap.size:=(ya.1 Hc.out).1;have z2:=(hc.keep _ _ _ _ ((xJ w1 _ ha).trans Hc.out) (by omega) qff qfz).trans ((xJ w1 _ ha).trans Hc.out);have he:w.heap.size<w2.heap.size:=(ya.1 z2).1;obtain⟨s0,s1,fs0,fs1⟩:=qid z2;have HZ:=zH z2;have HA:=zH hA;have HP:=zH hP;clear hc hx hA hP z2))
  have hW:=qq6 HZ.out (zI 0) (zI 0);refine qlj results74 rfl w.heap.size vp (zI 0) (zI 0) rfl rfl ((xJ _ _ (by simp;exact he)).trans hW) _ underlying169 rfl (by kernel_rfl) ?_;refine⟨⟨_,rfl,fun _=>?_⟩,?_⟩
  ·have h1:=(((HA.out.setSlip HZ.out 0 (zI 0)).setSlip (xH _ _ _ _ _ _ HZ.out) 1 (zI 0)).alloc (.cells #[zI 0,zI R.1.2] 169)).parts
   rw[HP.out]at h1;exact h1
  ·exact((((Hb.out.alloc Hb.out.size _).trans HC.out.below).setCell (p:=zO w.heap.size 0) (yg _) _).setCell (p:=zO w.heap.size 1) (yg _) _).alloc (by simp;omega) _
 ·have e0:¬(R.1.1:Int)=0:=by omega
  rw[if_neg h0];go_enter func74,ntmps74
  go_wp2_with (first
   |(go_at_call 73;refine xR (Hf.out _) ?_;rintro e w1 ⟨rfl,hb⟩;have Hb:Hid (zW w w1):=((xM w.heap.size w).alloc (yg _) _).trans (hb.mono (by simp));have Hc:Hid (w1.heap[w.heap.size]?=zK #[zI 0,zI 0] 169):=(hb.block _ (by simp)).trans (xG w _);clear hb)
   | (go_at_call 104;refine xR (He.out _ Hb.out) ?_;rintro e w2 ⟨rfl,hc,hx⟩;unfold qg8;have HC:Hid (Cur w.heap.size w1.heap.size (w1.alloc (.cells #[.string T,.string ⟨#[123,123]⟩,.string ⟨#[125,125]⟩,zN,zN] 222)) w2):=hc;have ha:w.heap.size<w1.heap.size:=(ya.1 Hc.out).1;have z2:=(hc.keep _ _ _ _ ((xJ w1 _ ha).trans Hc.out) (by omega) qff qfz).trans ((xJ w1 _ ha).trans Hc.out);have he:w.heap.size<w2.heap.size:=(ya.1 z2).1;obtain⟨s0,s1,fs0,fs1⟩:=qid z2;have HZ:=zH z2;clear hc hx z2))
  go_region
  all_goals
   go_wp2
   have hW:=qq6 HZ.out (zI R.1.1) (zI R.1.2);refine qlj results74 rfl w.heap.size (zN) (zI R.1.1) (zI R.1.2) rfl rfl ((xJ _ _ (by simp;exact he)).trans hW) _ underlying169 rfl (by kernel_rfl) ?_;refine⟨⟨_,rfl,fun h1=>absurd h1 h0⟩,?_⟩;exact(((((Hb.out.alloc Hb.out.size _).trans HC.out.below).setCell (p:=zO w.heap.size 0) (yg _) _).setCell (p:=zO w.heap.size 1) (yg _) _).alloc (by simp;omega) _).drew
theorem qwm(T:zT)(w:World)(hs:2000<T.size) :
  zC 74 #[.string T] w (zR (.tuple #[zN,qg8 1 0]) w):=by
 have c1:(2000:Int)<(T.size:Int):=by omega
 unfold qg8;go_enter func74,ntmps74
 go_wp2
 refine qlj results74 rfl w.heap.size (zN) (zI 1) (zI 0) rfl rfl (xG w _) _ underlying169 rfl (by kernel_rfl) ?_;exact⟨rfl,zB _⟩
theorem qz6(T:zT)(w:World)(hm:qa3 w)(hR:qd0 T.data.toList) :
  zC 74 #[.string T] w fun e w'=>(∃v,e=.returned (.tuple #[v,qg8 (qam T.data.toList).1.1 (qam T.data.toList).1.2])/\((qam T.data.toList).1.1=0->w'.ownsRow w.heap.size 229 4 v (qam T.data.toList).2.length (qbp (qam T.data.toList).2)))/\zW w w':=by
 by_cases hs:T.size<=2000
 ·exact q4f T w hm hs hR
 ·have hl:T.data.toList.length=T.size:=by simp
  have hc:qam T.data.toList=((1,0),[]):=by unfold qam;rw[if_pos (by omega)]
  rw[hc];refine(qwm T w (by omega)).mono ?_;rintro e w' ⟨rfl,hb⟩;exact⟨⟨_,rfl,fun h=>by cases h⟩,hb⟩
def qnt(f:Ft):Value:=.agg #[zI f.code,zI f.kind,bs f.place,zI f.pos]
def qau(L:List (zT×zT)):List (zU×zU):=L.map fun x=>(x.1.data.toList,x.2.data.toList)
def qk5(w:World)(v:Value)(L:List (zT×zT)):Prop:=∃ao cap,v=.slice ao L.length cap/\L.length<=cap/\cap<=maxLen/\(L≠[]->∃b o,ao=some (zO b o)/\PoAt w b o L)
theorem qk5.kept{w w':World}{v:Value}{L:List (zT×zT)}(h:qk5 w v L)(hb:zW w w'):qk5 w' v L:=by
 obtain⟨ao,cap,h1,h2,h3,h4⟩:=h;refine⟨ao,cap,h1,h2,h3,fun hn=>?_⟩;obtain⟨b,o,h5,h6⟩:=h4 hn;exact⟨b,o,h5,fun k x hx=>(hb.cell (p:=zO b (o+k*2)) (xP _ _ (h6.name k x hx))).trans (h6.name k x hx),fun k x hx=>(hb.cell (p:=zO b (o+k*2+1)) (xP _ _ (h6.text k x hx))).trans (h6.text k x hx)⟩
def zht(w:World)(B:Nat)(p:Value)(r:List (Nat×List Int)×List Src):Prop:=∃g F vv M s B',p=zP g/\w.heap[g]?=zK #[vv] 81/\B<=B'/\SvAt w B' F r.2 vv M s/\s.vis=r.1
def zdw:Prop:=∀(T:zT) (v:Value) (L:List (zT×zT)) (w:World),qk5 w v L->PTabs w->qa3 w->qd0 T.data.toList->(∀p∈L,qd0 p.2.data.toList) ->
    zC 12 #[.string T,v] w fun ed w'=>(∃p,ed=.returned (.tuple #[p,qnt (qc5 T.data.toList (qau L)).2])/\((qc5 T.data.toList (qau L)).2.code≠0->p=.pointer none)/\((qc5 T.data.toList (qau L)).2.code=0->zht w' w.heap.size p (qc5 T.data.toList (qau L)).1))/\zW w w'
section
open Go.ChangeShapes Go.WideShapes
theorem qmn{H:Type}{d:DataW H}:∀ {l:List (DataW H)},d∈l->Rows.uptoBulk d<=Rows.uptoBulkAll l
 |e::l,h=>by
   unfold Rows.uptoBulkAll;rcases xu.1 h with rfl|h
   ·omega
   ·have:=qmn h
    omega
theorem qxc{H:Type}:∀l:List (DataW H),l.length<=Rows.uptoBulkAll l
 |[]=>yH _
 |e::l=>by
   have:=qxc l;have:1<=Rows.uptoBulk e:=by
    cases e with
    |lit l=>cases l<;>simp[Rows.uptoBulk]
    |_=>simp[Rows.uptoBulk]
   unfold Rows.uptoBulkAll;rw[yK];omega
theorem qs0(b o j:Nat):((zO b o):Addr).add j=(zO b (o+j)):=by unfold Addr.add;split<;>simp_all
section
variable {H:Type}{enc:TypeId×Value->H}{w:World}{fuel:Nat}{v:Value}{x:DataW H×List MemPlace}{t e:TypeId}{α:Type}
theorem qqo{c:Nat}[Inhabited α]{p:α->List Value->Nat->Prop}(hu:prog.underlying t=some (.slice e))(hc:prog.cellsOf e=c)(h0:0<c)
  (hf:∀n cs y,cs.length=c->DataW.trod enc prog w 0 (fun _=>true) true n e cs=some y->∃a,p a cs (Rows.uptoBulk y.1))
  (h:DataW.trod enc prog w 0 (fun _=>true) true fuel t [v]=some x) :
  ∃L:List α,L.length<=Rows.uptoBulk x.1/\∃ao cap,v=.slice ao L.length cap/\L.length<=cap/\cap<=maxLen/\(L≠[]->∃b o,ao=some (zO b o)/\b<w.heap.size/\∀k a,L[k]?=some a->∃cs m,m<=Rows.uptoBulk x.1/\p a cs m/\∀j u,cs[j]?=some u->w.cell? (zO b (o+k*c+j))=some u):=by
 rcases Deep.open_slice hu h with⟨ha,_⟩|⟨a,len,cap,m,n,D,Ps,ha,_,hl,hm,He,hx,Hf⟩
 ·injection ha with ha _
  exact⟨[],yH _,none,0,ha,yH _,yH _,fun h=>absurd rfl h⟩
 injection ha with ha _;have Hi:m=cap:=by rw[He];rfl
 have each:∀i,i<len->∃q:α,∃cs,p q cs (Rows.uptoBulk (D i))/\cs.length=c/\∀j u,cs[j]?=some u->w.cell? (a.add (i*c+j))=some u:=by
  intro i hi;obtain⟨cs,h1,h2⟩:=Hf i (by omega);rw[hc]at h1;obtain⟨_,Ha,Hb⟩:=World.cells?_some h1;obtain⟨q,hq⟩:=hf _ _ _ Ha h2;refine⟨q,cs,hq,Ha,fun j u hj=>?_⟩;have:=Hb j (by rw[<-Ha];exact(yb.1 hj).1);rw[Deep.add_add]at this;exact this.trans hj
 obtain⟨q,hq⟩:=Deep.choose_lt each;have hb:Rows.uptoBulkAll ((List.range len).map D)<=Rows.uptoBulk x.1:=by
  rw[hx];show _<=Rows.uptoBulkAll _+Rows.uptoBulkAll _+1;omega
 have hn:=qxc ((List.range len).map D);rw[yR,List.length_range]at hn;refine⟨(List.range len).map q,by rw[yR,List.length_range];omega,some a,cap,by rw[ha];simp,by simp;omega,hm,fun hg=>?_⟩;have he:0<len:=Nat.pos_of_ne_zero fun h=>hg (by rw[h];rfl);obtain⟨b,ob,sp⟩:=a;obtain⟨cs0,_,l0,c0⟩:=hq 0 he;have c0:=c0 0 (cs0[0]'(by omega)) (yc (by omega));have Hg:sp=none:=by simpa [Addr.add]using World.cell?_spot c0
 subst Hg;rw[qs0]at c0;refine⟨b,ob,rfl,xP _ _ c0,fun k y hk=>?_⟩;rw[yz]at hk;obtain⟨j,hj,rfl⟩:=yy.1 hk;have Hc:=(yb.1 hj).1;rw[List.length_range]at Hc;rw[List.getElem?_range Hc]at hj;obtain rfl:=yk hj;obtain⟨cs,h1,h2,h3⟩:=hq k Hc;refine⟨cs,_,yh (qmn (xt.2 ⟨k,xh.2 Hc,rfl⟩)) hb,h1,fun i u hi=>?_⟩;have:=h3 i u hi;rw[qs0,<-Nat.add_assoc]at this;exact this
theorem q2y[Inhabited α](f:α->Value)(hu:prog.underlying t=some (.slice e))(hc:prog.cellsOf e=1)(hf:∀n cs y,DataW.trod enc prog w 0 (fun _=>true) true n e cs=some y->∃a,cs=[f a])
  (h:DataW.trod enc prog w 0 (fun _=>true) true fuel t [v]=some x):∃L:List α,qk4 w.heap.size w v (L.map f):=by
 obtain⟨L,_,ao,cap,hv,hl,hm,hx⟩:=qqo hu hc (by decide) (p:=fun a cs _=>cs=[f a]) (fun n cs y _ hy=>hf n cs y hy) h;refine⟨L,ao,cap,by rw[yR];exact hv,by rw[yR];omega,fun Ha=>?_⟩;obtain⟨b,o,e1,e2,e3⟩:=hx (fun q=>Ha (by rw[q];rfl));refine⟨b,o,e1,e2,fun j x hj=>?_⟩;rw[yz]at hj;obtain⟨a,ha,rfl⟩:=yy.1 hj;obtain⟨cs,_,_,rfl,h5⟩:=e3 j a ha;simpa using h5 0 _ rfl
theorem quw(h:DataW.trod enc prog w 0 (fun _=>true) true fuel 22 [v]=some x) :
  ∃L,qk5 w v L/\∀y∈L,y.1.size<=Rows.uptoBulk x.1:=by
 obtain⟨f0,f1,he,o0,o1,t0,t1⟩:∃f0 f1:Field,prog.underlying 38=some (.struct #[f0,f1])/\f0.offset=0/\f1.offset=1/\f0.type=9/\f1.type=9:=⟨_,_,underlying38,rfl,rfl,rfl,rfl⟩;have c2:prog.cellsOf 9=1:=by kernel_rfl
 obtain⟨L,_,ao,cap,hv,hl,hm,hx⟩:=qqo (α:=zT×zT) (p:=fun q cs m=>q.1.size<=m/\cs=[.string q.1,.string q.2]) (e:=38) (c:=2) (by kernel_rfl) (by kernel_rfl) (by decide) (fun n cs y hl hy=>by
  obtain⟨xs,k,hk,hb,_,Hb,hf⟩:=DataW.trod_struct he hy
  match xs,Hb,cs,hl with
  |[y0,y1],_,[v0,v1],_=>
    have g0:=hf 0 f0 rfl;have g1:=hf 1 f1 rfl;simp[o0,t0,c2]at g0;simp[o1,t1,c2]at g1;obtain⟨s,hs,Ha,_⟩:=DataW.trod_string underlying9 g0;obtain⟨s',ha,_,_⟩:=DataW.trod_string underlying9 g1;injection hs with hs _;injection ha with ha _;refine⟨(s,s'),?_,by rw[hs,ha]⟩;have h3:=qmn (d:=y0.1) (l:=[y0,y1].map (·.1)) (by simp);rw[Ha]at h3;have h4:s.size+1<=Rows.uptoBulkAll _:=h3;rw[hb];show s.size<=Rows.uptoBulkAll _+1;rw[Ha];omega) h
 refine⟨L,⟨ao,cap,hv,hl,hm,fun hc=>?_⟩,fun y hy=>?_⟩
 ·obtain⟨b,o,e1,_,e3⟩:=hx hc
  refine⟨b,o,e1,fun k y hk=>?_,fun k y hk=>?_⟩<;>obtain⟨cs,_,_,⟨_,rfl⟩,h5⟩:=e3 k y hk
  ·exact h5 0 _ rfl
  ·exact h5 1 _ rfl
 ·obtain⟨_,_,_,_,e3⟩:=hx (List.ne_nil_of_mem hy)
  obtain⟨k,hk⟩:=xo hy;obtain⟨_,m,h1,⟨h2,_⟩,_⟩:=e3 k y hk;exact yh h2 h1
theorem wf64{n:Int}(h:(Lit.int .i64 n).wf=true):-9223372036854775808<=n/\n<=9223372036854775807:=by
 simp only[Lit.wf,yL,yN]at h;exact h
theorem q8m(h:DataW.trod enc prog w 0 (fun _=>true) true fuel 44 [v]=some x) :
  ∃D,DsAt w.heap.size w v D/\∀d∈D,(-9223372036854775808<=d.n/\d.n<=9223372036854775807)/\d.s.length<=Rows.uptoBulk x.1:=by
 haveI:Inhabited Dt:=⟨Dt.null⟩
 obtain⟨f0,f1,f2,f3,f4,he,o0,o1,o2,o3,o4,t0,t1,t2,t3,t4⟩:∃f0 f1 f2 f3 f4:Field,prog.underlying 67=some (.struct #[f0,f1,f2,f3,f4])/\f0.offset=0/\f1.offset=1/\f2.offset=2/\f3.offset=3/\f4.offset=4/\f0.type=3/\f1.type=2/\f2.type=9/\f3.type=36/\f4.type=35:=⟨_,_,_,_,_,underlying67,rfl,rfl,rfl,rfl,rfl,rfl,rfl,rfl,rfl,rfl⟩;have c0:prog.cellsOf 3=1:=by kernel_rfl
 have c1:prog.cellsOf 2=1:=by kernel_rfl
 have c2:prog.cellsOf 9=1:=by kernel_rfl
 have c3:prog.cellsOf 36=1:=by kernel_rfl
 have c4:prog.cellsOf 35=1:=by kernel_rfl
 obtain⟨D,_,ao,cap,hv,hl,hm,hx⟩:=qqo (p:=fun(d:Dt) cs m=>((-9223372036854775808<=d.n/\d.n<=9223372036854775807)/\d.s.length<=m)/\∃iv nv,cs=[zI d.kind,zI d.n,bs d.s,iv,nv]/\qk4 w.heap.size w iv (d.items.map (zI))/\qk4 w.heap.size w nv (d.names.map bs)) (e:=67) (c:=5) (by kernel_rfl) (by kernel_rfl) (by decide) (fun n cs y hl hy=>by
  obtain⟨xs,k,hk,hb,_,Hb,hf⟩:=DataW.trod_struct he hy
  match xs,Hb,cs,hl with
  |[y0,y1,y2,y3,y4],_,[v0,v1,v2,v3,v4],_=>
    have g0:=hf 0 f0 rfl;have g1:=hf 1 f1 rfl;have g2:=hf 2 f2 rfl;have g3:=hf 3 f3 rfl;have g4:=hf 4 f4 rfl;simp[o0,t0,c0]at g0;simp[o1,t1,c1]at g1;simp[o2,t2,c2]at g2;simp[o3,t3,c3]at g3;simp[o4,t4,c4]at g4;obtain⟨kd,ha,_,_⟩:=DataW.trod_int underlying3 g0;obtain⟨m,hm,_,hc⟩:=DataW.trod_int underlying2 g1;obtain⟨s,hs,Ha,_⟩:=DataW.trod_string underlying9 g2;obtain⟨I,hI⟩:=q2y (α:=Int) (zI) (e:=3) (by kernel_rfl) c0 (fun n cs y hy=>(DataW.trod_int underlying3 hy).imp fun _ q=>q.1) g3;obtain⟨S,hS⟩:=q2y (α:=zU) bs (e:=9) (by kernel_rfl) c2 (fun n cs y hy=>by
     obtain⟨s,hs,_⟩:=DataW.trod_string underlying9 hy;exact⟨s.data.toList,hs⟩) g4
    injection ha with ha _;injection hm with hm _;injection hs with hs _;refine⟨⟨kd,m,s.data.toList,I,S⟩,⟨wf64 hc,?_⟩,v3,v4,by rw[ha,hm,hs];rfl,hI,hS⟩;have h3:=qmn (d:=y2.1) (l:=[y0,y1,y2,y3,y4].map (·.1)) (by simp);rw[Ha]at h3;have h4:s.data.toList.length+1<=Rows.uptoBulkAll _:=h3;rw[hb];show s.data.toList.length<=Rows.uptoBulkAll _+1;rw[Ha];omega) h
 refine⟨D,⟨ao,cap,hv,hl,hm,fun Hc=>?_⟩,fun y hy=>?_⟩
 ·obtain⟨b,o,e1,e2,e3⟩:=hx Hc
  refine⟨b,o,e1,e2,fun k y hk=>?_⟩;obtain⟨cs,_,_,⟨_,iv,nv,rfl,h6,h7⟩,h5⟩:=e3 k y hk;exact⟨h5 0 _ rfl,h5 1 _ rfl,h5 2 _ rfl,iv,nv,h5 3 _ rfl,h5 4 _ rfl,h6,h7⟩
 ·obtain⟨_,_,_,_,e3⟩:=hx (List.ne_nil_of_mem hy)
  obtain⟨k,hk⟩:=xo hy;obtain⟨_,m,h1,⟨h2,_⟩,_⟩:=e3 k y hk;exact⟨h2.1,yh h2.2 h1⟩
end
end
namespace Pl
def qcg(b:UInt8):Nat:=if b=35 then 0 else if b=94 then 1 else if b=47 then 2 else if b=62 then 3 else 4
def qb3(k:Nat):Int:=if k=1 then 0 else if k=2 then 1 else if k=3\/k=4 then 2 else if k=5 then 3 else 4
def qfw(i:Nat):Int:=if i=0 then 2 else if i=1 then 2 else if i=2 then 3 else if i=3 then 4 else 1
def qjs(i:Nat)(c:zU):zU:=if i<4 then Go.Lib.trimS (c.drop 1) qag else c
def pcOk(i:Nat)(c:zU):Bool:=if i=3 then qa4 (qjs i c)else isNm (qjs i c)
theorem q8u(b:UInt8):qcg b<=4:=by
 unfold qcg;repeat' split
 all_goals omega
theorem za8{x:UInt8}{t cs:zU}(h:Go.Lib.trimRightS (x::t) cs=x::t):Go.Lib.trimRightS t cs=t:=by
 rw[quf]at h;split at h
 ·next q=>
  split at h
  ·cases h
  ·injection h with _ h
   rw[<-h];rfl
 ·injection h
theorem za7{x:UInt8}{t:zU}(h:Go.Lib.trimRightS (x::t) qag=x::t):Go.Lib.trimS t qag=Go.Lib.trimLeftS t qag:=by
 unfold Go.Lib.trimS;rw[za8 h]
theorem qlr(b:UInt8)(l:zU)(ha:b≠33)(Ha:b≠61)(hR:Go.Lib.trimRightS (b::l) qag=b::l) :
  qb3 (qba (b::l)).kind=qfw (qcg b)/\(qba (b::l)).slip=(if pcOk (qcg b) (b::l)=true then 0 else 3)/\((qba (b::l)).slip=0->(qba (b::l)).name=qjs (qcg b) (b::l))/\decide ((qba (b::l)).kind=4)=decide (qcg b=1):=by
 have hl:=za7 hR;have e:qay (b::l)=if b=35 then 3 else if b=94 then 4 else if b=47 then 5 else if b=62 then 6 else 2:=by
  show(if b=33 then 7 else if b=61 then 8 else _)=_;rw[if_neg ha,if_neg Ha]
 have key:∀(k:Nat) (n:zU),(qcc k n).kind=k/\(qcc k n).slip=(if(if k=6 then qa4 n else isNm n)=true then 0 else 3)/\((qcc k n).slip=0->(qcc k n).name=n):=by
  intro k n;unfold qcc;by_cases q:(if k=6 then qa4 n else isNm n)=true
  ·rw[if_pos q,if_pos q];exact⟨rfl,rfl,fun _=>rfl⟩
  ·rw[if_neg q,if_neg q];exact⟨rfl,rfl,fun z=>by cases z⟩
 unfold qba;rw[e];unfold qcg pcOk qjs;by_cases c1:b=35
 ·simp only[c1,if_true]
  obtain⟨k1,k2,k3⟩:=key 3 (Go.Lib.trimLeftS l qag);refine⟨?_,?_,fun q=>(k3 q).trans ?_,?_⟩
  all_goals simp[k1,k2,hl,qb3,qfw]
 by_cases c2:b=94
 ·simp only[c2]
  obtain⟨k1,k2,k3⟩:=key 4 (Go.Lib.trimLeftS l qag);refine⟨?_,?_,fun q=>(k3 q).trans ?_,?_⟩
  all_goals simp[k1,k2,hl,qb3,qfw]
 by_cases c3:b=47
 ·simp only[c3]
  obtain⟨k1,k2,k3⟩:=key 5 (Go.Lib.trimLeftS l qag);refine⟨?_,?_,fun q=>(k3 q).trans ?_,?_⟩
  all_goals simp[k1,k2,hl,qb3,qfw]
 by_cases c4:b=62
 ·simp only[c4]
  obtain⟨k1,k2,k3⟩:=key 6 (Go.Lib.trimLeftS l qag);refine⟨?_,?_,fun q=>(k3 q).trans ?_,?_⟩
  all_goals simp[k1,k2,hl,qb3,qfw]
 ·simp only[if_neg c1,if_neg c2,if_neg c3,if_neg c4]
  obtain⟨k1,k2,k3⟩:=key 2 (b::l);refine⟨?_,?_,fun q=>(k3 q).trans ?_,?_⟩
  all_goals simp[k1,k2,qb3,qfw]
end Pl
variable{w0 w:World}{kd:Int}{a:Nat}{pv:Value}{tn:Bool}
def qcb(kd:Int)(a:Nat)(tx:zT)(pv:Value)(tn:Bool)(en:Int):Array Value:=#[zI kd,zI a,.string tx,pv,.bool tn,zI en]
structure PcM(w0 w:World)(kd:Int)(a:Nat)(tx:zT)(pv:Value)(tn:Bool):Prop where
 blk:w.heap[w0.heap.size+1]?=zK (qcb kd a tx pv tn 0) 136
 res:qfu w w0.heap.size
 kin:w.heap[w0.heap.size+1+1]?=zK #[zI 2,zI 2,zI 3,zI 4] 3
 below:zW w0 w
 sz:w0.heap.size+3<=w.heap.size
theorem PcM.kept{w':World}{tx:zT}(h:PcM w0 w kd a tx pv tn)(hb:zW w w'):PcM w0 w' kd a tx pv tn:=by
 have:=h.sz;exact⟨(hb.block _ (by omega)).trans h.blk,h.res.kept hb (by omega),(hb.block _ (by omega)).trans h.kin,h.below.trans (hb.mono (by omega)),yh h.sz hb.size⟩
theorem qql(w:World)(g:Nat)(kd:Int)(a:Nat)(tx:zT)(pv:Value)(tn:Bool)(h:w.heap[g]?=zK (qcb kd a tx pv tn 0) 136) :
  (∀z,(w.setCell (zO g 0) (zI z)).heap[g]?=zK (qcb z a tx pv tn 0) 136) /\
  (∀z,(w.setCell (zO g 2) (.string z)).heap[g]?=zK (qcb kd a z pv tn 0) 136) /\
  (∀z,(w.setCell (zO g 3) z).heap[g]?=zK (qcb kd a tx z tn 0) 136) /\
  (∀z,(w.setCell (zO g 4) (.bool z)).heap[g]?=zK (qcb kd a tx pv z 0) 136):=
 ⟨fun _=>xH w g 0 _ _ _ h,fun _=>xH w g 2 _ _ _ h,fun _=>xH w g 3 _ _ _ h,fun _=>xH w g 4 _ _ _ h⟩
theorem PcM.set{tx:zT}(h:PcM w0 w kd a tx pv tn)(j:Nat)(v:Value){kd':Int}{tx':zT}{pv':Value}{tn':Bool}
  (hb:(w.setCell (zO (w0.heap.size+1) j) v).heap[w0.heap.size+1]?=zK (qcb kd' a tx' pv' tn' 0) 136):PcM w0 (w.setCell (zO (w0.heap.size+1) j) v) kd' a tx' pv' tn':=by
 have hs:(w.setCell (zO (w0.heap.size+1) j) v).heap.size=w.heap.size:=by simp
 refine⟨hb,?_,(xK _ _ _ _ (by simp)).trans h.kin,h.below.setCell (by simp) _,by rw[hs];exact h.sz⟩;obtain⟨cs,t,h1,h2⟩:=h.res;exact⟨cs,t,(xK _ _ _ _ (by simp)).trans h1,h2⟩
theorem PcM.cells{tx:zT}(h:PcM w0 w kd a tx pv tn):∀(j:Nat) (v:Value),(qcb kd a tx pv tn 0).toList[j]?=some v->w.cell? (zO (w0.heap.size+1) j)=some v:=qaa h.blk
theorem PcM.kinds{tx:zT}(h:PcM w0 w kd a tx pv tn)(i:Nat)(hi:i<4):w.cell? (zO (w0.heap.size+1+1) i)=some (zI (Pl.qfw i)):=by
 have:=qaa h.kin
 match i,hi with
 |0,_=>exact this 0 _ rfl
 |1,_=>exact this 1 _ rfl
 |2,_=>exact this 2 _ rfl
 |3,_=>exact this 3 _ rfl
theorem PcM.thaw{tx:zT}(h:PcM w0 w kd a tx pv tn)(j:Nat):w.frozen? (zO (w0.heap.size+1) j)=false:=xI w _ j _ _ h.blk
theorem qq3:(prog.info? 136).map (·.size)=some 6:=by kernel_rfl
theorem zhp(w:World)(o:Obj)(a:Addr)(h:a.block<w.heap.size):(w.alloc o).cell? a=w.cell? a:=by
 unfold World.cell?;rw[xJ w o h]
theorem qm5{P:Program}{fn:Func}{R:Ending->World->Prop}{a:Act}{u p:Tmp}{ty:TypeId}(h:fn.results=#[.cell p ty,.tmp u])(g:Nat)(d:TypeDesc)(hu:P.underlying ty=some d)(hd:aggD d=true)(cs:Array Value)(hi:(P.info? ty).map (·.size)=some cs.size)
  (hp:a.tmps.getD p undef=zP g) (hg:∀j v,cs.toList[j]?=some v->w.cell? (zO g j)=some v) (ha:a.defers=[]) (y:Value) (hy:a.tmps.getD u undef=y) (hR:R (.returned (.tuple #[.agg cs,y])) w):bodyPost P fn R .ret a w:=by
 subst hy;exact bodyPost_ret (qjd h a.tmps _ g _ d hp hg hu hd hi) ha hR
theorem q8d(a:Nat)(w:World) :
  zC 83 #[zS,zI a] w (zR (.tuple #[.agg (qcb 1 a ⟨#[]⟩ (zN) false 0),zI 3]) w):=by
 go_enter func83,ntmps83
 go_wp2
 refine qm5 results83 w.heap.size _ underlying136 rfl (qcb 1 a ⟨#[]⟩ (zN) false 0) qq3 rfl ?_ rfl _ rfl ?_
 ·intro j v hj
  rw[zhp _ _ _ (by simp)];exact qaa (xG w _) j v hj
 ·exact⟨rfl,(zB _).alloc (by simp) _⟩
theorem qsx(c:zT)(a:Nat)(w:World)(hc:c.size<=1000000)(h0:0<c.size) :
  zC 83 #[.string c,zI a] w fun e w'=>(∃ao n cap,e=.returned (.tuple #[.agg (qcb (Pl.qfw (Pl.qcg c[0])) a ⟨(Pl.qjs (Pl.qcg c[0]) c.data.toList).toArray⟩ (.slice ao n cap) (decide (Pl.qcg c[0]=1)) 0),zI (if Pl.pcOk (Pl.qcg c[0]) c.data.toList=true then 0 else 3)]))/\zW w w':=by
 have Hn:(c.toList==[])=false:=by
  rw[yW,yf];intro e;have:c.data.toList.length=c.size:=rfl;rw[e]at this;simp at this;omega
 have Hk:=Pl.q8u c[0];have HM:Hid (∀k:Nat,k<4->∀(h:k<(⟨#[35,94,47,62]⟩:zT).size),((c[0].toNat:Int)==((⟨#[35,94,47,62]⟩:zT)[k].toNat:Int))=decide (k=Pl.qcg c[0])):=by
  intro k hk h;rw[beq8,xi,yF,decide_eq_true_iff];have hm:∀b:UInt8,((b=35)↔Pl.qcg b=0)/\((b=94)↔Pl.qcg b=1)/\((b=47)↔Pl.qcg b=2)/\((b=62)↔Pl.qcg b=3):=by
   have:∀n∈List.range 256,((UInt8.ofNat n=35)↔Pl.qcg (UInt8.ofNat n)=0)/\((UInt8.ofNat n=94)↔Pl.qcg (UInt8.ofNat n)=1)/\((UInt8.ofNat n=47)↔Pl.qcg (UInt8.ofNat n)=2)/\((UInt8.ofNat n=62)↔Pl.qcg (UInt8.ofNat n)=3):=by decide +kernel
   intro b;have:=this b.toNat (xh.2 b.toNat_lt)
   rwa [UInt8.ofNat_toNat]at this
  obtain⟨m0,m1,m2,m3⟩:=hm c[0]
  match k,hk with
  |0,_=>exact m0.trans ⟨fun q=>q.symm,fun q=>q.symm⟩
  |1,_=>exact m1.trans ⟨fun q=>q.symm,fun q=>q.symm⟩
  |2,_=>exact m2.trans ⟨fun q=>q.symm,fun q=>q.symm⟩
  |3,_=>exact m3.trans ⟨fun q=>q.symm,fun q=>q.symm⟩
 have H0:Hid (∀W0,((w.alloc (.cells #[zI 0,zI 0,zS,zN,.bool false,zI 0] 136)).alloc (.cells #[zI 1,zI a,.string c,zN,.bool false,zI 0] 136)).alloc (.cells #[zI 2,zI 2,zI 3,zI 4] 3)=W0->PcM w W0 1 a c (zN) false):=by
  rintro W0 rfl;refine⟨?_,?_,?_,((zB _).alloc (by simp) _).alloc (by rw[qlo,qlo];omega) _,by simp⟩
  ·rw[xJ _ _ (by simp)]
   have:=xG (w.alloc (.cells #[zI 0,zI 0,zS,zN,.bool false,zI 0] 136)) (.cells #[zI 1,zI a,.string c,zN,.bool false,zI 0] 136);rw[qlo]at this;exact this
  ·exact((qp9 w _ _ _ rfl rfl).alloc _).alloc _
  ·have:=xG ((w.alloc (.cells #[zI 0,zI 0,zS,zN,.bool false,zI 0] 136)).alloc (.cells #[zI 1,zI a,.string c,zN,.bool false,zI 0] 136)) (.cells #[zI 2,zI 2,zI 3,zI 4] 3)
   rw[qlo,qlo]at this;exact this
 obtain⟨D,hD⟩:∃D:zT,D=⟨#[35,94,47,62]⟩:=⟨_,rfl⟩;rw[<-hD]at HM;have ho:D.size=4:=by rw[hD];rfl
 have HT:Hid (∀w,zC 82 #[.string (c.extract 1 c.size)] w (zQ (zV (Go.Lib.trimS (c.data.toList.drop 1) Pl.qag)) w)):=by
  intro w;have hz:(c.extract 1 c.size).size<=1000000:=by rw[extract_drop,qb1,yM];show c.size - 1<=_;omega
  have:=qpw (c.extract 1 c.size) w hz;have e:(c.extract 1 c.size).data.toList=c.data.toList.drop 1:=by rw[extract_drop]
  rwa [e]at this
 have HX:Hid (∀t:zT,t=⟨(Go.Lib.trimS (c.data.toList.drop 1) Pl.qag).toArray⟩->∀m:Nat,cond (decide (m<4)) t c=⟨(Pl.qjs m c.data.toList).toArray⟩):=by
  rintro t rfl m;unfold Pl.qjs;by_cases q:m<4
  ·rw[yV q,if_pos q];rfl
  ·rw[yx q,if_neg q];rfl
 obtain⟨tx,Hb⟩:∃tx:zT,tx=⟨(Go.Lib.trimS (c.data.toList.drop 1) Pl.qag).toArray⟩:=⟨_,rfl⟩;have HX:=zH (HX.out tx Hb);rw[<-Hb]at HT;obtain⟨T,hT⟩:∃T:zT,T=⟨(Pl.qjs (Pl.qcg c[0]) c.data.toList).toArray⟩:=⟨_,rfl⟩;have Hf:Pl.pcOk (Pl.qcg c[0]) c.data.toList=if Pl.qcg c[0]=3 then Pl.qa4 T.data.toList else Pl.isNm T.data.toList:=by rw[hT];rfl
 have zT:T.size<=1000000:=by
  rw[hT,qb1];unfold Pl.qjs Go.Lib.trimS;have hl:c.data.toList.length=c.size:=rfl;split
  ·have h1:=qiq (Go.Lib.trimRightS (c.data.toList.drop 1) Pl.qag) Pl.qag
   have h2:=qmd (c.data.toList.drop 1) Pl.qag;rw[yM]at h2;omega
  ·omega
 have Hc:Hid (cond (decide (Pl.qcg c[0]<4)) tx c=T):=(HX.out _).trans hT.symm;rw[Hf,<-hT];clear Hf hT HX;obtain⟨mn,hg⟩:∃mn,mn=Pl.qcg c[0]:=⟨_,rfl⟩;rw[<-hg]at HM Hk Hc |-;obtain⟨sl,he⟩:∃sl:Int,sl=if(if mn=3 then Pl.qa4 T.data.toList else Pl.isNm T.data.toList)=true then 0 else 3:=⟨_,rfl⟩;rw[<-he];have Ha:=(show Hid (sl=_)from he);clear he;have Ho:(0:Int)<(c.size:Int):=by omega
 go_enter func83,ntmps83
 go_wp2
 rw[<-hD];clear hD Hb hg;generalize hW:World.alloc (World.alloc (World.alloc w _) _) _=W0;have Hg:=zH (H0.out W0 hW);clear H0 hW;go_loopw [9] (fun i wr=>∃k:Nat,k<=4/\i=zI k/\Hid (PcM w wr (cond (decide (mn<k)) (Pl.qfw mn) 1) a (cond (decide (mn<k)) tx c) (zN) (cond (decide (mn<k)) (decide (mn=1)) false))) (fun i _=>4 - (intOf i).toNat)
 case atStart=>exact⟨0,yH _,rfl,Hg⟩
 case round=>
  obtain⟨k,hk,rfl,HP⟩:=hrel;by_cases hi:k<4
  rotate_left
  ·have Hl:k=4:=by omega
   subst Hl;have Hi:Hid (PcM w wr (Pl.qfw mn) a T (zN) (decide (mn=1))):=by
    have:=HP.out;rw[Hc.out]at this;by_cases q:mn<4
    ·rw[yV q]at this;exact this
    ·have e4:mn=4:=by omega
     rw[yx q]at this;rw[e4]at this |-;exact this
   clear Hc HM Hg HP HT;have hj:=Hi.out.cells;have q12:=hj 2 _ rfl;clear hj;have HN:Hid (∀w1 v L,qgk wr.heap.size w1 v L->zW wr w1->∃ao n cap,v=.slice ao n cap/\PcM w w1 (Pl.qfw mn) a T (zN) (decide (mn=1))):=by
    intro w1 v L hO hB;obtain⟨ao,cap,rfl⟩:=hO.slice;exact⟨ao,L.length,cap,rfl,Hi.out.kept hB⟩
   have He:¬(((4:Nat):Int)<4):=by omega
   by_cases h3:mn=3
   ·have k3:(Pl.qfw mn==4)=true:=by rw[h3];rfl
    have H3:=(show Hid (mn=3)from h3);clear h3;cases ha:Pl.qa4 T.data.toList
    ·have HV:Hid (sl=3):=by show _=_;rw[Ha.out,if_pos H3.out,ha];rfl
     go_wp2_with (first|(go_at_call 120;refine(qkw T _ zT).mono ?_;rintro e w1 ⟨⟨v,rfl,L,hO,_⟩,hB⟩;obtain⟨ao,n,cap,rfl,hM⟩:=HN.out w1 v L hO hB;clear hO hB;have q0:=hM.cells 0 _ rfl;have q1:=hM.cells 1 _ rfl;have q2:=hM.cells 2 _ rfl;have q3:=hM.cells 3 _ rfl;have q4:=hM.cells 4 _ rfl;have q5:=hM.cells 5 _ rfl;have f3:=hM.thaw 3;have g0:=hM.res.thaw;obtain⟨x0,r0⟩:=hM.res.cell 0 (by decide);obtain⟨x1,r1⟩:=hM.res.cell 1 (by decide);obtain⟨x2,r2⟩:=hM.res.cell 2 (by decide);obtain⟨x3,r3⟩:=hM.res.cell 3 (by decide);obtain⟨x4,r4⟩:=hM.res.cell 4 (by decide);obtain⟨x5,r5⟩:=hM.res.cell 5 (by decide);have HM:=zH hM;clear hM)|(go_at_call 52;refine cm (qf4 T _ zT) ?_;rw[ha]))
     refine qbz results83 w.heap.size _ underlying136 rfl qq3 rfl ((HM.out.set 3 _ ((qql _ _ _ _ _ _ _ HM.out.blk).2.2.1 (.slice ao n cap))).res) rfl _ _ _ _ _ _ _ rfl ?_;exact⟨⟨ao,n,cap,by rw[HV.out];rfl⟩,qb9 (HM.out.below.setCell (by simp) _) (yg _) _ _ _ _ _ _⟩
    ·have HV:Hid (sl=0):=by show _=_;rw[Ha.out,if_pos H3.out,ha];rfl
     go_wp2_with (first|(go_at_call 120;refine(qkw T _ zT).mono ?_;rintro e w1 ⟨⟨v,rfl,L,hO,_⟩,hB⟩;obtain⟨ao,n,cap,rfl,hM⟩:=HN.out w1 v L hO hB;clear hO hB;have q0:=hM.cells 0 _ rfl;have q1:=hM.cells 1 _ rfl;have q2:=hM.cells 2 _ rfl;have q3:=hM.cells 3 _ rfl;have q4:=hM.cells 4 _ rfl;have q5:=hM.cells 5 _ rfl;have f3:=hM.thaw 3;have g0:=hM.res.thaw;obtain⟨x0,r0⟩:=hM.res.cell 0 (by decide);obtain⟨x1,r1⟩:=hM.res.cell 1 (by decide);obtain⟨x2,r2⟩:=hM.res.cell 2 (by decide);obtain⟨x3,r3⟩:=hM.res.cell 3 (by decide);obtain⟨x4,r4⟩:=hM.res.cell 4 (by decide);obtain⟨x5,r5⟩:=hM.res.cell 5 (by decide);have HM:=zH hM;clear hM)|(go_at_call 52;refine cm (qf4 T _ zT) ?_;rw[ha]))
     refine qbz results83 w.heap.size _ underlying136 rfl qq3 rfl ((HM.out.set 3 _ ((qql _ _ _ _ _ _ _ HM.out.blk).2.2.1 (.slice ao n cap))).res) rfl _ _ _ _ _ _ _ rfl ?_;exact⟨⟨ao,n,cap,by rw[HV.out];rfl⟩,qb9 (HM.out.below.setCell (by simp) _) (yg _) _ _ _ _ _ _⟩
   ·have k3:(Pl.qfw mn==4)=false:=by
     rw[yf];unfold Pl.qfw
     repeat' split
     all_goals omega
    have H3:=(show Hid (¬mn=3)from h3);clear h3;cases ha:Pl.isNm T.data.toList
    ·have HV:Hid (sl=3):=by show _=_;rw[Ha.out,if_neg H3.out,ha];rfl
     go_wp2_with (first|(go_at_call 120;refine(qkw T _ zT).mono ?_;rintro e w1 ⟨⟨v,rfl,L,hO,_⟩,hB⟩;obtain⟨ao,n,cap,rfl,hM⟩:=HN.out w1 v L hO hB;clear hO hB;have q0:=hM.cells 0 _ rfl;have q1:=hM.cells 1 _ rfl;have q2:=hM.cells 2 _ rfl;have q3:=hM.cells 3 _ rfl;have q4:=hM.cells 4 _ rfl;have q5:=hM.cells 5 _ rfl;have f3:=hM.thaw 3;have g0:=hM.res.thaw;obtain⟨x0,r0⟩:=hM.res.cell 0 (by decide);obtain⟨x1,r1⟩:=hM.res.cell 1 (by decide);obtain⟨x2,r2⟩:=hM.res.cell 2 (by decide);obtain⟨x3,r3⟩:=hM.res.cell 3 (by decide);obtain⟨x4,r4⟩:=hM.res.cell 4 (by decide);obtain⟨x5,r5⟩:=hM.res.cell 5 (by decide);have HM:=zH hM;clear hM))
     refine qbz results83 w.heap.size _ underlying136 rfl qq3 rfl ((HM.out.set 3 _ ((qql _ _ _ _ _ _ _ HM.out.blk).2.2.1 (.slice ao n cap))).res) rfl _ _ _ _ _ _ _ rfl ?_;exact⟨⟨ao,n,cap,by rw[HV.out];rfl⟩,qb9 (HM.out.below.setCell (by simp) _) (yg _) _ _ _ _ _ _⟩
    ·have HV:Hid (sl=0):=by show _=_;rw[Ha.out,if_neg H3.out,ha];rfl
     go_wp2_with (first|(go_at_call 120;refine(qkw T _ zT).mono ?_;rintro e w1 ⟨⟨v,rfl,L,hO,_⟩,hB⟩;obtain⟨ao,n,cap,rfl,hM⟩:=HN.out w1 v L hO hB;clear hO hB;have q0:=hM.cells 0 _ rfl;have q1:=hM.cells 1 _ rfl;have q2:=hM.cells 2 _ rfl;have q3:=hM.cells 3 _ rfl;have q4:=hM.cells 4 _ rfl;have q5:=hM.cells 5 _ rfl;have f3:=hM.thaw 3;have g0:=hM.res.thaw;obtain⟨x0,r0⟩:=hM.res.cell 0 (by decide);obtain⟨x1,r1⟩:=hM.res.cell 1 (by decide);obtain⟨x2,r2⟩:=hM.res.cell 2 (by decide);obtain⟨x3,r3⟩:=hM.res.cell 3 (by decide);obtain⟨x4,r4⟩:=hM.res.cell 4 (by decide);obtain⟨x5,r5⟩:=hM.res.cell 5 (by decide);have HM:=zH hM;clear hM))
     refine qbz results83 w.heap.size _ underlying136 rfl qq3 rfl ((HM.out.set 3 _ ((qql _ _ _ _ _ _ _ HM.out.blk).2.2.1 (.slice ao n cap))).res) rfl _ _ _ _ _ _ _ rfl ?_;exact⟨⟨ao,n,cap,by rw[HV.out];rfl⟩,qb9 (HM.out.below.setCell (by simp) _) (yg _) _ _ _ _ _ _⟩
  have He:(k:Int)<4:=by omega
  have Hm:(k:Int)<(D.size:Int):=by omega
  have hf:k<D.size:=by omega
  have hq:=HM.out k hi hf;by_cases Hj:k=mn
  rotate_left
  ·rw[yx Hj]at hq
   have hn:Hid (PcM w wr (cond (decide (mn<k+1)) (Pl.qfw mn) 1) a (cond (decide (mn<k+1)) tx c) (zN) (cond (decide (mn<k+1)) (decide (mn=1)) false)):=by
    have e:decide (mn<k+1)=decide (mn<k):=decide_eq_decide.2 (by omega);rw[e];exact HP.out
   clear HP HM;go_wp2
   go_region
   all_goals
    go_wp2
    go_roundw
    case rel=>exact⟨k+1,by omega,by go_num,hn.out.kept ((xM _ _).drew)⟩
    case measure=>simp[intOf];omega
  ·subst Hj
   rw[yV rfl]at hq;have q2:=HP.out.kinds k hi;have hb:Hid (PcM w wr 1 a c (zN) false):=by
    have:=HP.out;rw[yx (Nat.lt_irrefl k)]at this;exact this
   clear HP HM;have qc:=hb.out.cells;have q10:=qc 0 _ rfl;have q14:=qc 4 _ rfl;have q12:=qc 2 _ rfl;have f10:=hb.out.thaw;clear qc;go_wp2_with (go_at_call 82;refine cm (HT.out _) ?_)
   go_region
   all_goals
    go_wp2_with (go_at_call 82;refine cm (HT.out _) ?_)
    refine⟨⟨k+1,by omega,by go_num,?_⟩,by simp[intOf];omega⟩;have h1:=hb.out.set 0 _ ((qql _ _ _ _ _ _ _ hb.out.blk).1 (Pl.qfw k));have h2:=h1.set 4 _ ((qql _ _ _ _ _ _ _ h1.blk).2.2.2 ((k:Int)==1));have h3:=h2.set 2 _ ((qql _ _ _ _ _ _ _ h2.blk).2.1 tx);have e:((k:Int)==1)=decide (k=1):=by rw[xi,yF,decide_eq_true_iff];omega
    rw[yV (Nat.lt_succ_self k)];rw[e]at h3 |-;exact h3.kept ((xM _ _).drew)
variable{parts:List Pt}{w0 w w' w1:World}{op:List Nat}{vo vs:Value}{g cap:Nat}
structure Rm where
 kd:Int
 pos:Nat
 text:zU
 pv:Value
 tn:Bool
 en:Nat
def qdi(r:Rm):List Value:=[zI r.kd,zI r.pos,zV r.text,r.pv,.bool r.tn,zI r.en]
def qd8(L:List Rm):List Value:=L.flatMap qdi
theorem qqf(L:List Rm):(qd8 L).length=L.length*6:=by
 induction L with
 |nil=>rfl
 |cons p L ih=>show(qd8 L).length+6=_;rw[ih,yK];omega
theorem qwy(L:List Rm)(p:Rm):qd8 (L++[p])=qd8 L++qdi p:=by simp[qd8]
theorem qd5:∀(L:List Rm) (k:Nat) (p:Rm),L[k]?=some p->∀(j:Nat) (v:Value),(qdi p)[j]?=some v->(qd8 L)[k*6+j]?=some v
 |[],k,p,e=>by simp at e
 |q::L,0,p,e=>by
   simp only[yS,Option.some.injEq]at e;subst e;intro j v hv;show(qdi q++qd8 L)[0*6+j]?=some v;rw[Nat.zero_mul,xg,yr (yb.1 hv).1];exact hv
 |q::L,k+1,p,e=>by
   intro j v hv;have:=qd5 L k p (by simpa using e) j v hv;show(qdi q++qd8 L)[(k+1)*6+j]?=some v;rw[yt (by simp[qdi];omega)];have e:(k+1)*6+j - (qdi q).length=k*6+j:=by simp[qdi];omega
   rw[e];exact this
def qlp(L:List Rm)(m n:Nat):List Rm:=L.modify m fun r=>{ r with en:=n }
theorem qsr:∀(L:List Rm) (m n:Nat),m<L.length->(qd8 L).set (m*6+5) (zI n)=qd8 (qlp L m n)
 |[],m,n,h=>by simp at h
 |q::L,0,n,_=>rfl
 |q::L,m+1,n,h=>by
   have ih:=qsr L m n (by simpa using h);have e:qlp (q::L) (m+1) n=q::qlp L m n:=by simp[qlp]
   rw[e];show(qdi q++qd8 L).set ((m+1)*6+5) _=qdi q++qd8 (qlp L m n);rw[List.set_append_right _ _ (by simp[qdi];omega)];have e2:(m+1)*6+5 - (qdi q).length=m*6+5:=by simp[qdi];omega
   rw[e2,ih]
structure RmOf(i:Nat)(r:Rm)(p:Pt):Prop where
 kd:r.kd=Pl.qb3 p.kind
 pos:r.pos=p.pos
 text:r.text=p.text
 tn:r.tn=decide (p.kind=4)
 en:r.en=if p.kind=3\/p.kind=4 then p.mate - i else 0
 pv:∃ao n cap,r.pv=.slice ao n cap
structure RmsOf(L:List Rm)(parts:List Pt):Prop where
 len:L.length=parts.length
 each:∀i r p,L[i]?=some r->parts[i]?=some p->RmOf i r p
theorem q76:RmsOf [] []:=⟨rfl,fun i r p h=>by simp at h⟩
theorem RmsOf.snoc{L:List Rm}(h:RmsOf L parts)(r:Rm)(p:Pt)(hr:RmOf parts.length r p):RmsOf (L++[r]) (parts++[p]):=by
 refine⟨by rw[yJ,yJ,h.len];rfl,fun i r' p' h1 h2=>?_⟩;by_cases q:i<parts.length
 ·rw[yr (by rw[h.len];exact q)]at h1
  rw[yr q]at h2;exact h.each i r' p' h1 h2
 ·have h3:=(yb.1 h2).1
  rw[yJ]at h3;simp only[yK,yQ]at h3;have e:i=parts.length:=by omega
  subst e;rw[yt (yg _),xA]at h2;rw[yt (by rw[h.len];exact yg _),h.len,xA]at h1;simp at h1 h2;subst h1 h2;exact hr
theorem RmsOf.mate{L:List Rm}(h:RmsOf L parts)(m n:Nat)(hk:∀p,parts[m]?=some p->p.kind=3\/p.kind=4):RmsOf (qlp L m (n - m)) (qbd parts m n):=by
 refine⟨by unfold qlp qbd;rw[List.length_modify,List.length_modify];exact h.len,fun i r p h1 h2=>?_⟩;unfold qlp at h1;unfold qbd at h2;rw[List.getElem?_modify]at h1 h2;by_cases e:m=i
 ·subst e
  simp only[if_true]at h1 h2;obtain⟨r0,hr,rfl⟩:=yy.1 h1;obtain⟨p0,hp,rfl⟩:=yy.1 h2;have:=h.each m r0 p0 hr hp;exact⟨this.kd,this.pos,this.text,this.tn,by show n - m=if p0.kind=3\/p0.kind=4 then n - m else 0;rw[if_pos (hk p0 hp)],this.pv⟩
 ·simp only[if_neg e]at h1 h2
  obtain⟨r0,hr,rfl⟩:=yy.1 h1;obtain⟨p0,hp,rfl⟩:=yy.1 h2;exact h.each i r0 p0 hr hp
theorem qgo:(130:TypeId)≠136:=by decide
theorem qwf:(130:TypeId)≠3:=by decide
theorem qf9:(136:TypeId)≠3:=by decide
structure PaAt(w0 wr:World)(L:List Rm)(op:List Nat)(vo vs:Value):Prop where
 res:wr.heap[w0.heap.size]?=zK #[zI 0,zI 0] 130
 out:wr.ownsRow w0.heap.size 136 6 vo L.length (qd8 L)
 sc:wr.ownsRow w0.heap.size 3 1 vs op.length (qb0 op)
 below:zW w0 wr
theorem PaAt.lt{wr:World}{L:List Rm}(h:PaAt w0 wr L op vo vs):w0.heap.size<wr.heap.size:=(zL h.res)
theorem PaAt.kept{L:List Rm}(h:PaAt w0 w L op vo vs)(hb:zW w w'):PaAt w0 w' L op vo vs:=
 ⟨(hb.block _ h.lt).trans h.res,qab h.out fun k hk=>hb.block k (h.out.lt k hk).2,qab h.sc fun k hk=>hb.block k (h.sc.lt k hk).2,h.below.trans (hb.mono (yj h.lt))⟩
theorem PaAt.more{L:List Rm}{vo':Value}(h:PaAt w0 w L op vo vs)(Hb:zW w w1)(r:Rm)(ha:w'.ownsRow w0.heap.size 136 6 vo' (L.length+1) (qd8 L++qdi r))(Ha:w1.grownBy w' vo.ownBlock):PaAt w0 w' (L++[r]) op vo' vs:=by
 have h:=h.kept Hb;have hb:∀(k:Nat) (cs:Array Value) (t:TypeId) (fz:Nat×Nat),w1.heap[k]?=some (.cells cs t fz)->t≠136->w'.heap[k]?=w1.heap[k]?:=fun k cs t fz hk ht=>Ha.block k (ya.1 hk).1 (fun e=>by
  obtain⟨cur,hc⟩:=qac h.out k e.symm;exact qae hk hc ht rfl)
 refine⟨(hb _ _ _ _ h.res qgo).trans h.res,?_,qab h.sc fun k hk=>?_,h.below.grown Ha (yj h.lt) (fun k hk=>(h.out.lt k hk).1)⟩
 ·rw[qwy,yJ];exact ha
 ·obtain⟨cur,hc⟩:=qac h.sc k hk
  exact hb _ _ _ _ hc qf9.symm
theorem PaAt.push{L:List Rm}{vs':Value}(h:PaAt w0 w L op vo vs)(Hb:zW w w1)(n:Nat)(ha:w'.ownsRow w0.heap.size 3 1 vs' (op.length+1) (qb0 op++[zI n]))(Ha:w1.grownBy w' vs.ownBlock):PaAt w0 w' L (op++[n]) vo vs':=by
 have h:=h.kept Hb;have hb:∀(k:Nat) (cs:Array Value) (t:TypeId) (fz:Nat×Nat),w1.heap[k]?=some (.cells cs t fz)->t≠3->w'.heap[k]?=w1.heap[k]?:=fun k cs t fz hk ht=>Ha.block k (ya.1 hk).1 (fun e=>by
  obtain⟨cur,hc⟩:=qac h.sc k e.symm;exact qae hk hc ht rfl)
 refine⟨(hb _ _ _ _ h.res qwf).trans h.res,qab h.out fun k hk=>?_,?_,h.below.grown Ha (yj h.lt) (fun k hk=>(h.sc.lt k hk).1)⟩
 ·obtain⟨cur,hc⟩:=qac h.out k hk
  exact hb _ _ _ _ hc qf9
 ·have e2:qb0 (op++[n])=qb0 op++[zI n]:=by simp[qb0]
  rw[e2,yJ];exact ha
theorem PaAt.mated{L:List Rm}{N:Nat}(h:PaAt w0 w L op (zF g N cap) vs)(m n:Nat)(hm:m<L.length):PaAt w0 (w.setCell (zO g (m*6+5)) (zI n)) (qlp L m n) op (zF g N cap) vs:=by
 have ha:∀k,k≠g->(w.setCell (zO g (m*6+5)) (zI n)).heap[k]?=w.heap[k]?:=fun k hk=>xL _ _ _ _ hk;obtain⟨cur,hc⟩:=qac h.out g rfl;have Ha:=(h.out.lt g rfl).1;refine⟨(ha _ (qae h.res hc qgo)).trans h.res,?_,qab h.sc fun k hk=>?_,h.below.setCell Ha _⟩
 ·have hs:(qlp L m n).length=L.length:=by unfold qlp;rw[List.length_modify]
  have hN:N=L.length:=by
   rcases h.out.2 with⟨h0,_⟩|⟨g',cap',cur',hv,_⟩
   ·cases h0
   ·injection hv
  subst hN;rw[hs,<-qsr _ _ _ hm];exact(h.out.stored (m*6+5) (zI n)).1
 ·obtain⟨cur',hb⟩:=qac h.sc k hk
  exact ha k (qae hb hc qf9.symm)
theorem PaAt.pop{L:List Rm}{n:Nat}(h:PaAt w0 w L op vo (zF g op.length cap))(hn:n<=op.length):PaAt w0 w L (op.take n) vo (zF g n cap):=by
 refine⟨h.res,h.out,?_,h.below⟩;have:=qjt h.sc n hn;have e:(op.take n).length=n:=by rw[yP];omega
 rw[e];have e2:qb0 (op.take n)=(qb0 op).take (n*1):=by unfold qb0;rw[List.map_take,Nat.mul_one]
 rw[e2];exact this
variable{c:Ct}{one:Tg}{o:Nat}
structure PaRd(w wr:World)(t:zU)(OP CL:zT)(parts:List Pt)(op:List Nat)(a:Nat)(L:List Rm)(vo vs:Value):Prop where
 at_:PaAt w wr L op vo vs
 of_:RmsOf L parts
 ok:CtOk t ⟨OP.data.toList,CL.data.toList,parts,op⟩ a
 eq:qam t=if((⟨OP.data.toList,CL.data.toList,parts,op⟩:Ct).rest t a).1.1=0 then((0,0),((⟨OP.data.toList,CL.data.toList,parts,op⟩:Ct).rest t a).2)else(((⟨OP.data.toList,CL.data.toList,parts,op⟩:Ct).rest t a).1,[])
theorem PaRd.next{w wr w':World}{t:zU}{OP CL OP' CL':zT}{parts:List Pt}{op:List Nat}{a:Nat}{L L':List Rm}{vo vs vo' vs':Value}(h:PaRd w wr t OP CL parts op a L vo vs){parts':List Pt}{op':List Nat}{b:Nat}
  (hs:(⟨OP.data.toList,CL.data.toList,parts,op⟩:Ct).step t a=.next ⟨OP'.data.toList,CL'.data.toList,parts',op'⟩ b) (hA:PaAt w w' L' op' vo' vs') (hL:RmsOf L' parts'):PaRd w w' t OP' CL' parts' op' b L' vo' vs'/\a<b:=by
 obtain⟨h1,h2⟩:=qhj h.ok hs;refine⟨⟨hA,hL,h1,?_⟩,h2⟩;rw[<-qw0 h.ok hs];exact h.eq
theorem Pl.readTg_low(b:UInt8)(l:zU)(ha:b≠33)(Ha:b≠61):(qba (b::l)).kind≠7/\(qba (b::l)).kind≠8:=by
 have e:qay (b::l)=if b=35 then 3 else if b=94 then 4 else if b=47 then 5 else if b=62 then 6 else 2:=by
  show(if b=33 then 7 else if b=61 then 8 else _)=_;rw[if_neg ha,if_neg Ha]
 have key:∀(k:Nat) (n:zU),(qcc k n).kind=k:=by
  intro k n;unfold qcc;by_cases q:(if k=6 then qa4 n else isNm n)=true
  ·rw[if_pos q]
  ·rw[if_neg q]
 have h:qay (b::l)≠7/\qay (b::l)≠8:=by
  rw[e]
  repeat' split
  all_goals decide
 unfold qba;rw[if_neg h.1,if_neg h.2];split
 ·rw[key];decide
 ·rw[key];exact h
theorem Pl.take_plain(hb:one.slip=0)(h7:one.kind≠7)(h8:one.kind≠8)(ha:Pl.qb3 one.kind≠2)(Ha:Pl.qb3 one.kind≠3):c.take one o=(0,{ c with parts:=c.parts++[⟨one.kind,o,one.name,0⟩] }):=by
 unfold Ct.take;have q2:¬(one.kind=3\/one.kind=4):=fun h=>ha (by rcases h with h|h<;>rw[h]<;>rfl)
 have q3:¬one.kind=5:=fun h=>Ha (by rw[h];rfl);rw[if_neg (by omega),if_neg h7,if_neg h8,if_neg q2,if_neg q3]
theorem Pl.take_open(Ha:one.slip=0)(ha:Pl.qb3 one.kind=2):c.take one o=if c.opened.length=6 then(8,c)else(0,{ c with parts:=c.parts++[⟨one.kind,o,one.name,0⟩],opened:=c.opened++[c.parts.length] }):=by
 have q:one.kind=3\/one.kind=4:=by
  unfold Pl.qb3 at ha;by_cases q:one.kind=3\/one.kind=4
  ·exact q
  ·rw[if_neg q]at ha
   repeat' split at ha
   all_goals omega
 unfold Ct.take;rw[if_neg (by omega),if_neg (by omega),if_neg (by omega),if_pos q]
theorem Pl.take_close(Ha:one.slip=0)(ha:Pl.qb3 one.kind=3):c.take one o=match c.opened.getLast? with
  |none=>(5,c)
  |some m=>if qmg c.parts m≠one.name then(6,c)else(0,{ c with parts:=qbd c.parts m c.parts.length++[⟨5,o,one.name,m⟩],opened:=c.opened.dropLast }):=by
 have q:one.kind=5:=by
  unfold Pl.qb3 at ha
  repeat' split at ha
  all_goals omega
 unfold Ct.take;rw[if_neg (by omega),if_neg (by omega),if_neg (by omega),if_neg (by omega),if_pos q];cases c.opened.getLast?<;>rfl
theorem Pl.refKind_one(k:Nat):(Pl.qb3 k=1)=(k=2):=by
 unfold Pl.qb3;refine propext ⟨fun h=>?_,fun h=>by rw[h];rfl⟩
 repeat' split at h
 all_goals omega
variable{w wr:World}{a:Act}
def qlf(w:World)(t:zU)(e:Ending)(w':World):Prop:=
 (∃v,e=.returned (.tuple #[v,.agg #[zI (qam t).1.1,zI (qam t).1.2]])/\((qam t).1.1=0->∃L,RmsOf L (qam t).2/\w'.ownsRow w.heap.size 136 6 v L.length (qd8 L)))/\zW w w'
theorem Pl.addText_keeps(o c t:zU)(parts:List Pt)(op:List Nat)(a z:Nat):(⟨o,c,parts,op⟩:Ct).addText t a z=⟨o,c,((⟨o,c,parts,op⟩:Ct).addText t a z).parts,op⟩:=by
 unfold Ct.addText;split<;>rfl
theorem qq2:(prog.info? 130).map (·.size)=some 2:=by kernel_rfl
theorem Pl.trR_idem(cs l:zU):Go.Lib.trimRightS (Go.Lib.trimRightS l cs) cs=Go.Lib.trimRightS l cs:=by
 have:∀m:zU,(m.dropWhile (cs.contains ·)).dropWhile (cs.contains ·)=m.dropWhile (cs.contains ·):=by
  intro m
  induction m with
  |nil=>rfl
  |cons x m ih=>
    by_cases q:cs.contains x=true
    ·rw[xx q];exact ih
    ·rw[xw q,xw q]
 unfold Go.Lib.trimRightS;rw[List.reverse_reverse,this]
theorem qe4{P:Program}{fn:Func}{u p:Tmp}{ty:TypeId}(h:fn.results=#[.tmp u,.cell p ty])(tmps:Array Value)(w:World)(g:Nat)(cs:Array Value)(d:TypeDesc)
  (hp:tmps.getD p undef=zP g) (hg:∀j v,cs.toList[j]?=some v->w.cell? (zO g j)=some v) (hu:P.underlying ty=some d) (hd:aggD d=true) (hi:(P.info? ty).map (·.size)=some cs.size) :
  (results fn tmps).run P w=.ok (.tuple #[tmps.getD u undef,.agg cs]) w:=by
 have hl:=qbb (P:=P) w g ty cs d hg hu (by cases d<;>first|rfl|cases hd) hi
 rw[yZ]at hp;simp only[results,h];simp[hp,asAddr,hl]
theorem quv{t:zU}{k p:Nat}(ha:wr.heap[w.heap.size]?=zK #[zI 0,zI 0] 130)(hb:zW w wr)(hv:qam t=((k,p),[]))(hk:k≠0)
  (hp:a.tmps.getD 3 undef=zP w.heap.size) (h2:a.tmps.getD 2 undef=zN) (Ha:a.defers=[]) :
  bodyPost prog f53 (qlf w t) .ret a ((wr.setCell (zO w.heap.size 0) (zI k)).setCell (zO w.heap.size 1) (zI p)):=by
 have h1:=xH wr w.heap.size 0 _ _ (zI (k:Int)) ha;have h3:=xH _ w.heap.size 1 _ _ (zI (p:Int)) h1;refine bodyPost_ret (qe4 (cs:=#[zI k,zI p]) results53 a.tmps _ w.heap.size _ hp (qaa h3) underlying130 rfl qq2) Ha ?_;rw[h2];refine⟨⟨_,by rw[hv],fun h=>absurd (by rw[hv]at h;exact h) hk⟩,(hb.setCell (yg _) _).setCell (yg _) _⟩
theorem zg6{t:zU}{v vs:Value}{L:List Rm}{op:List Nat}{parts:List Pt}(hA:PaAt w wr L op v vs)(hv:qam t=((0,0),parts))(hL:RmsOf L parts)
  (hp:a.tmps.getD 3 undef=zP w.heap.size) (h2:a.tmps.getD 2 undef=v) (Ha:a.defers=[]) :
  bodyPost prog f53 (qlf w t) .ret a ((wr.setCell (zO w.heap.size 0) (zI 0)).setCell (zO w.heap.size 1) (zI 0)):=by
 have h1:=xH wr w.heap.size 0 _ _ (zI 0) hA.res;have h3:=xH _ w.heap.size 1 _ _ (zI 0) h1;refine bodyPost_ret (qe4 (cs:=#[zI 0,zI 0]) results53 a.tmps _ w.heap.size _ hp (qaa h3) underlying130 rfl qq2) Ha ?_;rw[h2];have ha:v.ownBlock≠some w.heap.size:=fun e=>by
  obtain⟨cur,hc⟩:=qac hA.out _ e;exact qae hA.res hc qgo rfl
 exact⟨⟨_,by rw[hv];rfl,fun _=>⟨L,by rw[hv];exact hL,ownsRow_setCell_other (ownsRow_setCell_other hA.out ha _) ha _⟩⟩,(hA.below.setCell (yg _) _).setCell (yg _) _⟩
theorem q3c:(prog.info? 136).map (fun i=>(i.zero,i.size,i.bytes))=some (some (.agg #[zI 0,zI 0,zS,zN,.bool false,zI 0]),6,72):=by kernel_rfl
def qsq(a:Nat)(x:zU):Rm:=⟨0,a,x,zN,false,0⟩
theorem qqe(i a:Nat)(x:zU):RmOf i (qsq a x) ⟨1,a,x,0⟩:=⟨rfl,rfl,rfl,rfl,by show 0=_;rw[if_neg (by simp)],none,0,0,rfl⟩
theorem zfo(s:zT)(z:Int)(a:Nat)(w:World)(hz:z=a)(hs:s.size<=1000000)(ha:a<=s.size) :
  zC 85 #[.string s,zI z] w (zQ (zI (Pl.lnT s.data.toList a)) w):=by
 subst hz;exact q5r s a w hs ha
theorem q3s(s:zT)(z:Int)(a b:Nat)(w:World)(hz:z=a)(hs:s.size<=1000000)(hb:b<=s.size)(ha:a<=b) :
  zC 86 #[.string s,zI z,zI b] w (zQ (.bool (Pl.emp s.data.toList a b)) w):=by
 subst hz;exact q1z s a b w hs hb ha
theorem qj7(s x:zT)(z:Int)(k:Nat)(w:World)(hz:z=k)(hs:s.size<=1000000)(hx:x.size<=1000000)(hk:k<=s.size) :
  zC 81 #[.string s,.string x,zI z] w (zQ (zI (Pl.qdr s.data.toList x.data.toList k)) w):=by
 subst hz;exact qtl s x k w hs hx hk
namespace Pl
structure PkOk(I:zU)(b:UInt8)(sil:Bool)(K:Int)(tx:zU)(tn:Bool):Prop where
 one:(K==1)=decide ((qba I).kind=2)
 sl:sil=true->K=0/\tx=[]/\tn=false/\((b=33/\qba I=⟨7,0,[],[],[]⟩)\/(b=61/\qba I=qdc I))
 op:sil=false->b≠33/\b≠61/\pcOk (qcg b) I=true/\K=qfw (qcg b)/\tx=qjs (qcg b) I/\tn=decide (qcg b=1)
theorem q5q{t:zU}{o z:Nat}{k:Nat}{K:Int}(hk:(K==1)=decide (k=2))(ho:o<=t.length)(hz:z<=t.length){l1 l2:Nat}
  (h1:l1=if(!(K==1) && (emp t (lnF t o) o && emp t z (lnT t z)))=true then lnF t o else o)
  (h2:l2=if(!(K==1) && (emp t (lnF t o) o && emp t z (lnT t z)))=true then(if lnT t z<t.length then lnT t z+1 else lnT t z)else z) :
  (if k≠2 then qel t o z else(o,z))=(l1,l2):=by
 rw[hk]at h1 h2;by_cases q:k=2
 ·rw[if_neg (by omega),h1,h2,yV q];rfl
 ·rw[if_pos q,q83 t o z ho hz,h1,h2,yx q]
  cases hb:(emp t (lnF t o) o && emp t z (lnT t z))<;>rfl
theorem zff{I:zU}{b:UInt8}(hI:I=b::I.drop 1)(hR:Go.Lib.trimRightS I qag=I)(hb:b=33\/b=61\/pcOk (qcg b) I=true):∃sil K tx tn,PkOk I b sil K tx tn/\sil=(b==33 || b==61):=by
 by_cases ha:b=33
 ·have e:qba I=⟨7,0,[],[],[]⟩:=by rw[hI,ha];rfl
  refine⟨true,0,[],false,⟨by rw[e];rfl,fun _=>⟨rfl,rfl,rfl,.inl ⟨ha,e⟩⟩,(fun h=>nomatch h)⟩,by rw[ha];rfl⟩
 by_cases Ha:b=61
 ·have e:qba I=qdc I:=by rw[hI,Ha];rfl
  have e2:(qdc I).kind=8:=by
   unfold qdc
   repeat' split
   all_goals rfl
  refine⟨true,0,[],false,⟨by rw[e,e2];rfl,fun _=>⟨rfl,rfl,rfl,.inr ⟨Ha,e⟩⟩,(fun h=>nomatch h)⟩,by rw[Ha];rfl⟩
 have hT:=qlr b (I.drop 1) ha Ha (by rw[<-hI];exact hR);rw[<-hI]at hT;refine⟨false,qfw (qcg b),qjs (qcg b) I,decide (qcg b=1),⟨?_,(fun h=>nomatch h),fun _=>⟨ha,Ha,(hb.resolve_left ha).resolve_left Ha,rfl,rfl,rfl⟩⟩,?_⟩
 ·rw[<-hT.1]
  by_cases q:(qba I).kind=2
  ·rw[yV q,q];rfl
  ·rw[yx q,yf];intro e;rw[refKind_one]at e;exact q e
 ·rw[yf.2 ha,yf.2 Ha];rfl
end Pl
variable{w0 w:World}{L:List Rm}{op:List Nat}{vo vs:Value}{i o k n cap:Nat}{K:Int}{tn:Bool}{ao:Option Addr}
theorem PaAt.cell(h:PaAt w0 w L op vo vs){g:Nat}{cs:Array Value}{fz:Nat×Nat}(hg:w.heap[g]?=some (.cells cs 136 fz))(hn:vo.ownBlock≠some g)(hB:w0.heap.size<=g)(j:Nat)(v:Value):PaAt w0 (w.setCell (zO g j) v) L op vo vs:=by
 refine⟨(xL _ _ _ _ (qae h.res hg qgo)).trans h.res,ownsRow_setCell_other h.out hn _,qab h.sc fun k hk=>?_,h.below.setCell hB _⟩;obtain⟨cur,hc⟩:=qac h.sc k hk;exact xL _ _ _ _ (qae hc hg qf9.symm)
theorem PaAt.six(h:PaAt w0 w L op vo vs){g:Nat}{kd:Int}{a:Nat}{tx:zT}{pv:Value}{tn:Bool}{en:Int}(hg:w.heap[g]?=zK (qcb kd a tx pv tn en) 136)(hn:vo.ownBlock≠some g)(hB:w0.heap.size<=g)(K:Int)(o:Nat)(t:zT)(p:Value)(b:Bool)(e:Int) :
  PaAt w0 ((((((w.setCell (zO g 0) (zI K)).setCell (zO g 1) (zI o)).setCell (zO g 2) (.string t)).setCell (zO g 3) p).setCell (zO g 4) (.bool b)).setCell (zO g 5) (zI e)) L op vo vs /\
  ((((((w.setCell (zO g 0) (zI K)).setCell (zO g 1) (zI o)).setCell (zO g 2) (.string t)).setCell (zO g 3) p).setCell (zO g 4) (.bool b)).setCell (zO g 5) (zI e)).heap[g]?=zK (qcb K o t p b e) 136:=by
 have b1:=xH _ g 0 _ _ (zI K) hg;have b2:=xH _ g 1 _ _ (zI (o:Int)) b1;have b3:=xH _ g 2 _ _ (.string t) b2;have b4:=xH _ g 3 _ _ p b3;have b5:=xH _ g 4 _ _ (.bool b) b4;exact⟨(((((h.cell hg hn hB 0 _).cell b1 hn hB 1 _).cell b2 hn hB 2 _).cell b3 hn hB 3 _).cell b4 hn hB 4 _).cell b5 hn hB 5 _,xH _ g 5 _ _ _ b5⟩
theorem q4z{tx:zU}(h1:Pl.qb3 k=K)(h4:decide (k=4)=tn)(h2:K≠2):RmOf i ⟨K,o,tx,.slice ao n cap,tn,0⟩ ⟨k,o,tx,0⟩:=
 ⟨h1.symm,rfl,rfl,h4.symm,by show 0=_;rw[if_neg (fun h=>h2 (by rw[<-h1];rcases h with h|h<;>rw[show k=_ from h]<;>rfl))],_,_,_,rfl⟩
theorem q77{tx:zU}(h1:Pl.qb3 k=K)(h4:decide (k=4)=tn):RmOf i ⟨K,o,tx,.slice ao n cap,tn,0⟩ ⟨k,o,tx,0⟩:=
 ⟨h1.symm,rfl,rfl,h4.symm,by show 0=if _ then 0 - i else 0;rw[Nat.zero_sub];split<;>rfl,_,_,_,rfl⟩
theorem q40{m:Nat}{tx:zU}(h1:Pl.qb3 k=K)(h4:decide (k=4)=tn)(h3:K=3):RmOf i ⟨K,o,tx,.slice ao n cap,tn,0⟩ ⟨5,o,tx,m⟩:=by
 refine⟨h3,rfl,rfl,?_,rfl,_,_,_,rfl⟩;rw[<-h4];exact yx (fun e=>by rw[e,h3]at h1;exact absurd h1 (by decide))
theorem PaAt.drew(h:PaAt w0 w L op vo vs):PaAt w0 w.drew L op vo vs:=⟨h.res,qab h.out fun _ _=>rfl,qab h.sc fun _ _=>rfl,h.below.drew⟩
theorem q70(L:List Rm)(m n:Nat):(qlp L m n).length=L.length:=by unfold qlp;rw[List.length_modify]
theorem qxa{B g:Nat}{e:TypeId}{xs:List Value}(h:w.ownsRow B e k (zF g n cap) n xs):n<=cap:=by
 rcases h.2 with⟨h0,_⟩|⟨g',cap',cur,hv,_,_,h1,_⟩
 ·cases h0
 ·injection hv with _ _ e3
  omega
theorem PaAt.apart{g7:Nat}(h:PaAt w0 w L op (zF g7 L.length cap) vs){g:Nat}{K:Int}{a:Nat}{tx:zT}{pv:Value}{tn:Bool}{en:Int}{ty:TypeId}{fz:Nat×Nat}(hg:w.heap[g]?=some (.cells (qcb K a tx pv tn en) ty fz)){m:Nat}{r:Rm}(hr:L[m]?=some r)(h2:r.kd=2)(hK:K=3):g≠g7:=by
 rintro rfl;have hm:=(yb.1 hr).1;have c1:w.cell? (zO g (m*6+0))=some (zI r.kd):=by
  rw[World.ownsRow.cellAt h.out (m*6+0) (yi (by omega:m*6+0<(m+1)*6) (xF 6 hm))];exact qd5 _ m r hr 0 _ rfl
 have c2:w.cell? (zO g (m*6+0))=(qcb K a tx pv tn en)[m*6+0]?:=by unfold World.cell?;rw[hg];rfl
 rw[c2]at c1;cases m with
 |zero=>
   have c3:(qcb K a tx pv tn en)[0*6+0]?=some (zI K):=rfl;rw[c3]at c1;injection c1 with c1;injection c1 with _ c1;omega
 |succ m=>
   rw[Array.getElem?_eq_none (by show 6<=_;omega)]at c1;cases c1
section
open Go.Maps
variable{P:Program}{w wr:World}{L M:List (Value×Value)}{S:List Pl.Src}{B R n:Nat}{F:Fix}
theorem qfb{fn:Func}{R:Ending->World->Prop}{a:Act}{t p:Tmp}{ty:TypeId}(h:fn.results=#[.tmp t,.cell p ty])(ha:a.defers=[])(g:Nat)(x:Value)(cs:Array Value)(hx:a.tmps.getD t undef=x)(hp:a.tmps.getD p undef=zP g)
  (hb:w.heap[g]?=zK cs ty) (d:TypeDesc) (hu:P.underlying ty=some d) (hd:aggD d=true) (hi:(P.info? ty).map (·.size)=some cs.size) (hR:R (.returned (.tuple #[x,.agg cs])) w):bodyPost P fn R .ret a w:=by
 subst hx;refine bodyPost_ret ?_ ha hR;have hl:=qbb (P:=P) w g ty cs d (qaa hb) hu (by cases d<;>first|rfl|cases hd) hi
 rw[yZ]at hp;simp only[results,h];simp[hp,asAddr,hl]
theorem qoi(s:Pl.Src):∀(l:List Pl.Src) (i:Nat),qbw i (l++[s])=qbw i l++[(bs s.name,zI (i+l.length:Nat))]
 |[],i=>by simp[qbw]
 |a::l,i=>by
   show(bs a.name,Value.int .i64 i)::qbw (i+1) (l++[s])=_;rw[qoi s l (i+1)];show _::(qbw (i+1) l++[(bs s.name,Value.int .i64 ((i+1+l.length:Nat):Int))])=(bs a.name,Value.int .i64 i)::(qbw (i+1) l++[(bs s.name,Value.int .i64 ((i+(l.length+1):Nat):Int))]);rw[show i+1+l.length=i+(l.length+1) by omega]
theorem qlb(m:List Pl.Src):∀(l:List Pl.Src) (i:Nat),qbw i (l++m)=qbw i l++qbw (i+l.length) m
 |[],i=>by simp[qbw]
 |a::l,i=>by
   show(bs a.name,Value.int .i64 i)::qbw (i+1) (l++m)=(bs a.name,Value.int .i64 i)::(qbw (i+1) l++qbw (i+(l.length+1)) m);rw[qlb m l (i+1),show i+1+l.length=i+(l.length+1) by omega]
theorem KeysOk.front{K:TypeId}(h:KeysOk P K (L++M)):KeysOk P K L:=
 ⟨fun p hp=>h.key p (List.mem_append_left _ hp),fun i j p q hi hj e=>h.one i j p q (by rw[yr (yb.1 hi).1];exact hi) (by rw[yr (yb.1 hj).1];exact hj) e⟩
theorem KeysOk.apart{K:TypeId}{x:Value×Value}(h:KeysOk P K (L++x::M)):∀p∈L,p.1≠x.1:=fun p hp e=>by
 obtain⟨i,hi⟩:=xo hp;have hl:=(yb.1 hi).1;have:=h.one i L.length p x (by rw[yr hl];exact hi) (by simp) e;omega
theorem q0y(hS:SrcsOk S){k:Nat}{s:Pl.Src}(hk:1<=k)(hs:S[k]?=some s) :
  KeysOk prog 9 (qbw 1 ((S.drop 1).take (k - 1)))/\(∀p∈qbw 1 ((S.drop 1).take (k - 1)),p.1≠bs s.name)/\qbw 1 ((S.drop 1).take (k - 1))++[(bs s.name,zI (k:Nat))]=qbw 1 ((S.drop 1).take k):=by
 have Hb:=(yb.1 hs).1;have hd:(S.drop 1)[k - 1]?=some s:=by rw[List.getElem?_drop,show 1+(k - 1)=k by omega];exact hs
 have Ha:=(yb.1 hd).1;have hb:((S.drop 1).take (k - 1)).length=k - 1:=by rw[yP];omega
 have e1:(S.drop 1).take k=(S.drop 1).take (k - 1)++[s]:=by
  have h1:=yB Ha;rw[show k - 1+1=k by omega]at h1;rw[h1]
  congr 2
  rw[yc Ha]at hd;exact yk hd
 have e2:qbw 1 ((S.drop 1).take (k - 1))++[(bs s.name,zI (k:Nat))]=qbw 1 ((S.drop 1).take k):=by
  rw[e1,qoi,hb,show 1+(k - 1)=k by omega]
 have ha:=qqk hS;rw[<-yu k (S.drop 1),qlb,<-e2,yq]at ha;exact⟨ha.front,KeysOk.apart (x:=(bs s.name,zI (k:Nat))) ha,e2⟩
structure Lki(w wr:World)(B:Nat)(F:Fix)(S:List Pl.Src)(R n:Nat):Prop where
 blk:wr.heap[F.g]?=zK (qlm F S.length (zN) Pl.Ft.none) 178
 src:SrcAt wr B F S
 places:qfj wr F.bp (qbw 1 ((S.drop 1).take (n - 1)))
 ends:qfj wr F.be []
 nums:qfj wr F.bn []
 res:wr.heap[R]?=zK #[zI 0,zI 0,zS,zI 0] 31
 le:B<=F.g/\B<=F.be/\B<=F.bn/\B<=F.bp/\B<=R
 apart:F.g≠F.be/\F.bp≠F.be/\F.bn≠F.be/\F.bn≠F.bp
 below:Below B w wr
 old:w.heap.size<=F.g/\w.heap.size<=F.bp/\w.heap.size<=R/\w.heap.size<=wr.heap.size
 kp:∀k,k<w.heap.size->wr.heap[k]?=w.heap[k]?
theorem Lki.next{w':World}(h:Lki w wr B F S R n)(hb:zW wr w')(hB:B<=wr.heap.size):Lki w w' B F S R n:=
 ⟨(hb.block _ (zL h.blk)).trans h.blk,h.src.kept (by obtain⟨cs,fz,hc⟩:=h.src.blk;exact hb.block _ (ya.1 hc).1) (fun i s k hs hv=>by obtain⟨cur,hc⟩:=qac (h.src.row i s hs) k hv;exact hb.block _ (ya.1 hc).1),h.places.heap (hb.block _ h.places.lt),h.ends.heap (hb.block _ h.ends.lt),h.nums.heap (hb.block _ h.nums.lt),(hb.block _ (zL h.res)).trans h.res,h.le,h.apart,h.below.trans (hb.mono hB),⟨h.old.1,h.old.2.1,h.old.2.2.1,yh h.old.2.2.2 hb.size⟩,fun k hk=>(hb.block k (yi hk h.old.2.2.2)).trans (h.kp k hk)⟩
theorem Lki.put(h:Lki w wr B F S R n)(hS:SrcsOk S)(hn:1<=n){s:Pl.Src}(hs:S[n]?=some s) :
  ∃w',(Instr.mapUpdate 174 (.map (some F.bp)) (zV s.name) (zI n)).run prog wr=.ok () w'/\Lki w w' B F S R (n+1)/\w'.heap.size=wr.heap.size:=by
 obtain⟨k1,k2,k3⟩:=q0y hS hn hs;obtain⟨kl,Ha⟩:=q0a ⟨s.name.toArray⟩ (by rw[q2b];have:=hS.short n s hs;unfold maxLen;omega);obtain⟨w',h1,h2,h3,h4⟩:=qiw (val:=zI n) qno underlying174 h.places k1 Ha k2;have hk:∀k,k<wr.heap.size->k≠F.bp->w'.heap[k]?=wr.heap[k]?:=fun k hk hb=>h3.block k hk (fun e=>hb (yk e));refine⟨w',h1,?_,h4⟩;have ha:∀(k:Nat) (cs:Array Value) (t:TypeId) (fz:Nat×Nat),wr.heap[k]?=some (Obj.cells cs t fz)->w'.heap[k]?=wr.heap[k]?:=fun k cs t fz hc=>hk k (ya.1 hc).1 (qak hc h.places);refine⟨(ha _ _ _ _ h.blk).trans h.blk,h.src.kept (by obtain⟨cs,fz,hc⟩:=h.src.blk;exact ha _ _ _ _ hc) (fun i s k hs hv=>by obtain⟨cur,hc⟩:=qac (h.src.row i s hs) k hv;exact ha _ _ _ _ hc),?_,h.ends.heap (hk _ h.ends.lt h.apart.2.1.symm),h.nums.heap (hk _ h.nums.lt h.apart.2.2.2),(ha _ _ _ _ h.res).trans h.res,h.le,h.apart,h.below.trans ⟨h3.os,h3.tape,h3.output,h3.size,fun k Hb=>h3.block k ?_ (fun e=>?_)⟩,⟨h.old.1,h.old.2.1,h.old.2.2.1,by rw[h4];exact h.old.2.2.2⟩,fun q hq=>(hk q (yi hq h.old.2.2.2) (by have:=h.old.2.1;omega)).trans (h.kp q hq)⟩
 ·unfold bs at k3
  rw[k3]at h2;exact h2
 ·have:=h.below.size;have:=h.places.lt;have:=h.le.2.2.2.1;omega
 ·have:=h.le.2.2.2.1;have:=yk e;omega
theorem Lki.drew(h:Lki w wr B F S R n)(hB:B<=wr.heap.size):Lki w wr.drew B F S R n:=h.next (xM _ _).drew hB
def Pl.Sr.zero:Pl.Sr:=⟨[],[],[],Pl.Ft.none⟩
theorem Lki.start(h:Lki w wr B F S R n)(hn:S.length<=n):SvAt wr B F S (zN) [] Pl.Sr.zero:=by
 have e:(S.drop 1).take (n - 1)=S.drop 1:=yp (by rw[yM];omega);have hp:=h.places;rw[e]at hp;exact⟨⟨h.blk,h.src,hp,h.ends,⟨h.le.1,h.le.2.1⟩,h.apart.1,h.apart.2.1⟩,h.nums,World.ownsRow_nil _ _ _ _,rfl,fun i g v hi=>by simp at hi,List.nodup_nil,h.apart.2.2.1,h.apart.2.2.2,h.le.2.2.1⟩
theorem qus(hS:SrcsOk S):Pre S Pl.Sr.zero (0,Pl.Sx.start):=by
 exact⟨⟨q59 _,fun p hp=>(by cases hp),fun i j p q hi=>(by simp[Pl.Sr.zero]at hi),fun p hp=>(by cases hp),fun p hp=>(by cases hp),rfl⟩,rfl,.inl ⟨rfl,rfl⟩,qmi,hS.few.1⟩
namespace Pl
theorem q19(S:List Src)(s:Sr)(e:En)(len:Nat)(ho:EndsOk S.length s.ends)(he:SxFit e.2):(qh0 S s e len).nums=s.nums/\(qh0 S s e len).vis=s.vis:=by
 have ha:=qo6 (qke S 257 s.ends.length (by omega)) (qah S e.1) ((qah S e.1).length+1) 0 s e.2 ho (yg _) (.inr he);unfold qh0;split
 ·exact⟨ha.1.nums,ha.1.vis⟩
 ·exact⟨ha.1.nums,ha.1.vis⟩
theorem qqv(S:List Src)(len:Nat):qew S len =
  if(qev S 258 Sr.zero (0,Sx.start)).fault.code≠0 then([],(qev S 258 Sr.zero (0,Sx.start)).fault)else
  if(qh0 S (qev S 258 Sr.zero (0,Sx.start)) (0,Sx.start) len).fault.code≠0 then([],(qh0 S (qev S 258 Sr.zero (0,Sx.start)) (0,Sx.start) len).fault)
  else((qh0 S (qev S 258 Sr.zero (0,Sx.start)) (0,Sx.start) len).vis,Ft.none):=by
 unfold qew qh0 Sr.zero;simp only;split
 ·rfl
 ·split
  ·rename_i h
   rw[if_pos (by simp[Sr.wrong])];rfl
  ·rfl
end Pl
variable{w wr:World}{B R E:Nat}{S:List Src}{F:Fix}{vv:Value}{M:List Nat}{s:Sr}
theorem q8z{bS:Nat}{pv:Nat->Value}(ha:SrcAt w B ⟨0,bS,0,0,0,pv⟩ S)(hB:B<=w.heap.size) :
  Lki w (((((w.alloc (.cells #[zI 0,zI 0,zS,zI 0] 31)).alloc (.map #[] 0)).alloc (.map #[] 0)).alloc (.map #[] 0)).alloc (.cells #[zF bS S.length S.length,.map (some (w.heap.size+1)),.map (some (w.heap.size+1+1)),.map (some (w.heap.size+1+1+1)),zN,zI 0,zI 0,zS,zI 0] 178)) B ⟨w.heap.size+1+1+1+1,bS,w.heap.size+1,w.heap.size+1+1,w.heap.size+1+1+1,pv⟩ S w.heap.size 1:=by
 have hb:zW w (((((w.alloc (.cells #[zI 0,zI 0,zS,zI 0] 31)).alloc (.map #[] 0)).alloc (.map #[] 0)).alloc (.map #[] 0)).alloc (.cells #[zF bS S.length S.length,.map (some (w.heap.size+1)),.map (some (w.heap.size+1+1)),.map (some (w.heap.size+1+1+1)),zN,zI 0,zI 0,zS,zI 0] 178)):=
  ((((zB _).alloc (by simp<;>omega) _).alloc (by simp<;>omega) _).alloc (by simp<;>omega) _).alloc (by simp<;>omega) _
 have h0:=xG w (.cells #[zI 0,zI 0,zS,zI 0] 31);refine⟨qap _ _ _ (by simp<;>omega),?_,⟨#[],0,?_,rfl⟩,⟨#[],0,?_,rfl⟩,⟨#[],0,?_,rfl⟩,?_,?_,?_,hb.mono hB,?_,fun k hk=>hb.block k hk⟩
 ·refine SrcAt.kept (F:=⟨w.heap.size+1+1+1+1,bS,w.heap.size+1,w.heap.size+1+1,w.heap.size+1+1+1,pv⟩) ⟨ha.blk,ha.name,ha.slice,ha.row⟩ (by obtain⟨cs,fz,hc⟩:=ha.blk;exact hb.block _ (ya.1 hc).1) (fun i s k hs hv=>by obtain⟨cur,hc⟩:=qac (ha.row i s hs) k hv;exact hb.block _ (ya.1 hc).1)
 ·exact(xJ _ _ (by simp<;>omega)).trans ((xJ _ _ (by simp<;>omega)).trans ((xJ _ _ (by simp<;>omega)).trans (qap (w.alloc _) _ _ (by simp<;>omega))))
 ·exact(xJ _ _ (by simp<;>omega)).trans ((xJ _ _ (by simp<;>omega)).trans (qap ((w.alloc _).alloc _) _ _ (by simp<;>omega)))
 ·exact(xJ _ _ (by simp<;>omega)).trans (qap (((w.alloc _).alloc _).alloc _) _ _ (by simp<;>omega))
 ·exact(xJ _ _ (by simp<;>omega)).trans ((xJ _ _ (by simp<;>omega)).trans ((xJ _ _ (by simp<;>omega)).trans ((xJ _ _ (by simp<;>omega)).trans h0)))
 ·exact⟨by simp only;omega,by simp only;omega,by simp only;omega,by simp only;omega,hB⟩
 ·exact⟨by simp only;omega,by simp only;omega,by simp only;omega,by simp only;omega⟩
 ·exact⟨by simp only;omega,by simp only;omega,yg _,hb.size⟩
theorem qhg{g:Nat}{t:TypeId}{u0 u1 u2 u3:Value}(h:w.heap[g]?=zK #[u0,u1,u2,u3] t)(v0 v1 v2 v3:Value) :
  ((((w.setCell (zO g 0) v0).setCell (zO g 1) v1).setCell (zO g 2) v2).setCell (zO g 3) v3).heap[g]?=zK #[v0,v1,v2,v3] t:=
 qhu (t:=t) [v0,v1,v2,v3] w 0 [] [u0,u1,u2,u3] h rfl rfl
theorem qeg:(31:TypeId)≠178:=by decide
theorem qdm:(31:TypeId)≠173:=by decide
theorem qfk:(31:TypeId)≠229:=by decide
theorem qex:(31:TypeId)≠205:=by decide
theorem qga:(31:TypeId)≠3:=by decide
theorem SvAt.other(h:SvAt w B F S vv M s){k:Nat}{cs:Array Value}{t:TypeId}{fz:Nat×Nat}(hk:w.heap[k]?=some (.cells cs t fz))(h1:t≠178)(h2:t≠173)(h3:t≠229)(h4:t≠205)(h5:t≠3)(j:Nat)(v:Value):SvAt (w.setCell (zO k j) v) B F S vv M s:=
 h.kept (h.se.other hk h1 h2 h3 j v) fun i hi ha Ha=>xL _ _ _ _ fun e=>by
  subst e;rcases ha _ _ _ hk with q|q
  ·exact h4 q
  ·exact h5 q
theorem SvAt.fault4(h:SvAt w B F S vv M s){g:Nat}{u0 u1 u2 u3:Value}(hk:w.heap[g]?=zK #[u0,u1,u2,u3] 31)(v0 v1 v2 v3:Value) :
  SvAt ((((w.setCell (zO g 0) v0).setCell (zO g 1) v1).setCell (zO g 2) v2).setCell (zO g 3) v3) B F S vv M s:=by
 have h1:(w.setCell (zO g 0) v0).heap[g]?=_:=xH _ _ _ _ _ _ hk;have h2:((w.setCell (zO g 0) v0).setCell (zO g 1) v1).heap[g]?=_:=xH _ _ _ _ _ _ h1;have h3:(((w.setCell (zO g 0) v0).setCell (zO g 1) v1).setCell (zO g 2) v2).heap[g]?=_:=xH _ _ _ _ _ _ h2;exact(((h.other hk qeg qdm qfk qex qga 0 v0).other h1 qeg qdm qfk qex qga 1 v1).other h2 qeg qdm qfk qex qga 2 v2).other h3 qeg qdm qfk qex qga 3 v3
def zdu(w w':World):Prop:=∀(k:Nat) (cs:Array Value) (t:TypeId) (fz:Nat×Nat),w.heap[k]?=some (.cells cs t fz)->t≠205->t≠3->w'.heap[k]?=w.heap[k]?
structure Lkj(w wr:World)(B:Nat)(F:Fix)(S:List Src)(vv:Value)(M:List Nat)(s:Sr)(R E:Nat):Prop where
 sv:SvAt wr B F S vv M s
 res:wr.heap[R]?=zK #[zI 0,zI 0,zS,zI 0] 31
 ent:wr.heap[E]?=zK (qao (0,Sx.start)) 180
 below:Below B w wr
 le:B<=R
 old:w.heap.size<=F.g/\w.heap.size<=R
 kp:zdu w wr
theorem Lkj.turn{w':World}{vv':Value}{M':List Nat}{s':Sr}(h:Lkj w wr B F S vv M s R E)(hs:SvAt w' B F S vv' M' s')(hc:Cuv B F wr w'):Lkj w w' B F S vv' M' s' R E:=
 ⟨hs,(hc.keep R _ _ _ h.res (qae h.res h.sv.se.blk qeg) qex qga).trans h.res,(hc.keep E _ _ _ h.ent (qae h.ent h.sv.se.blk qb6) (by decide) (by decide)).trans h.ent,h.below.trans hc.below,h.le,h.old,fun k cs t fz hk h1 h2=>(hc.keep k cs t fz ((h.kp k cs t fz hk h1 h2).trans hk) (by have:=(ya.1 hk).1;have:=h.old.1;omega) h1 h2).trans (h.kp k cs t fz hk h1 h2)⟩
theorem Lkj.set(h:Lkj w wr B F S vv M s R E)(v0 v1 v2 v3:Value) :
  ((((wr.setCell (zO R 0) v0).setCell (zO R 1) v1).setCell (zO R 2) v2).setCell (zO R 3) v3).heap[R]?=zK #[v0,v1,v2,v3] 31/\Below B w ((((wr.setCell (zO R 0) v0).setCell (zO R 1) v1).setCell (zO R 2) v2).setCell (zO R 3) v3)/\SvAt ((((wr.setCell (zO R 0) v0).setCell (zO R 1) v1).setCell (zO R 2) v2).setCell (zO R 3) v3) B F S vv M s/\zdu w ((((wr.setCell (zO R 0) v0).setCell (zO R 1) v1).setCell (zO R 2) v2).setCell (zO R 3) v3):=
 ⟨qhg h.res _ _ _ _,(((h.below.setCell (p:=zO R 0) h.le v0).setCell (p:=zO R 1) h.le v1).setCell (p:=zO R 2) h.le v2).setCell (p:=zO R 3) h.le v3,h.sv.fault4 h.res _ _ _ _,fun k cs t fz hk h1 h2=>by
  have ha:k≠R:=by have:=(ya.1 hk).1;have:=h.old.2;omega
  exact(xL _ _ _ _ ha).trans ((xL _ _ _ _ ha).trans ((xL _ _ _ _ ha).trans ((xL _ _ _ _ ha).trans (h.kp k cs t fz hk h1 h2))))⟩
theorem zcb(HB:qhp)(S:List Src)(hS:SrcsOk S)(Hu:ThrC S 258)(w:World)(B bS:Nat)(pv:Nat->Value)(len:Nat)(hb:SrcAt w B ⟨0,bS,0,0,0,pv⟩ S)(hB:B<=w.heap.size)(ht:TabB B w) :
  zC 45 #[zF bS S.length S.length,zI len] w fun ed w'=>(∃v,ed=.returned (.tuple #[v,qnt (qew S len).2])/\((qew S len).2.code=0->∃F M s,SvAt w' B F S v M s/\s.vis=(qew S len).1))/\Below B w w'/\zdu w w':=by
 have hL:=q8z hb hB;have HT:=(show Hid (TabB B w)from ht);have hg:=(show Hid (B<=w.heap.size)from hB);have hl:1<=S.length:=hS.few.1;have Hy:(S.length:Int)<=7:=by have:=hS.few.2;omega
 obtain⟨r,hr⟩:∃r,r=qew S len:=⟨_,rfl⟩;rw[<-hr];have HR:=zH hr;have hv:=fun(t:TypeId) (w:World)=>run_makeMap (P:=prog) t w;clear hb hB ht hr;go_enter func45,ntmps45
 go_wp2_with fail
 obtain⟨F,hF⟩:∃F:Fix,F=⟨w.heap.size+1+1+1+1,bS,w.heap.size+1,w.heap.size+1+1,w.heap.size+1+1+1,pv⟩:=⟨_,rfl⟩;rw[<-hF]at hL;have eg:w.heap.size+1+1+1+1=F.g:=by rw[hF]
 have eS:F.bS=bS:=by rw[hF]
 have HL:=zH hL;clear hL hF;generalize World.alloc _ (Obj.cells _ 178)=w1 at HL |-;rw[eg];clear eg;generalize w.heap.size=R at HL |-;have Hg:=fun w=>zaq w;have est:qar Sx.start=.agg #[zJ 1,zS,zS,zI 0,zI 0,.bool false,.bool false,zI 0,zI 0,zI 0]:=rfl;rw[est]at Hg;have Hv:=zH Hg;have Hl:Hid (∀w5,SvAt w5 B F S (zN) [] Sr.zero->TabB B w5->zC 75 #[zP F.g,.agg #[zI 0,zJ 1,zS,zS,zI 0,zI 0,.bool false,.bool false,zI 0,zI 0,zI 0]] w5 fun ed w'=>(∃r,ed=.returned r)/\(∃vv' ext,SvAt w' B F S vv' ([]++ext) (qev S 258 Sr.zero (0,Sx.start)))/\Cuv B F w5 w'):=fun w5 h5 t5=>Hu w5 B F _ [] Sr.zero (0,Sx.start) h5 (qus hS) (by show 258<=0+258;omega) t5;obtain⟨s1,hi⟩:∃s1,s1=qev S 258 Sr.zero (0,Sx.start):=⟨_,rfl⟩;have HI:=zH (qo7 S 258 Sr.zero (0,Sx.start) (qus hS) (by show 258<=0+258;omega));have hc:=Pl.qqv S len;rw[<-HR.out,<-hi]at hc;rw[<-hi]at Hl HI;have hm:=zH hc;clear Hg est hi HR hc hv;go_loopw [7] (fun i wr=>∃n:Nat,1<=n/\n<=S.length/\i=zI n/\Hid (Lki w wr B F S R n)) (fun i _=>S.length - (intOf i).toNat)
 case atStart=>exact⟨1,yg _,hl,rfl,HL.out⟩
 case round=>
  obtain⟨n,Hm,hw,rfl,HK⟩:=hrel;clear HL;have He:B<=wr.heap.size:=yh hg.out HK.out.below.size;by_cases hn:n<S.length
  ·have Hi:(n:Int)<(S.length:Int):=by omega
   obtain⟨src,hb⟩:∃src,S[n]?=some src:=⟨S[n],yc hn⟩;have b1:wr.cell? (zO F.g 1)=some (.map (some F.bp)):=qaa HK.out.blk 1 _ rfl;have b2:wr.cell? (zO bS (n*2))=some (zV src.name):=by
    have:=HK.out.src.name n src hb;rw[eS]at this;exact this
   obtain⟨w3,Hw,Hn,hx⟩:=(HK.out.drew He).put hS Hm hb;have Hx:=zH Hn;clear Hn hx hb He;go_wp2_with fail
   go_region
   all_goals
    go_wp2_with fail
    go_roundw
    case rel=>exact⟨n+1,by omega,by omega,by go_num,Hx.out⟩
    case measure=>simp[intOf];omega
  ·have Hi:¬(n:Int)<(S.length:Int):=by omega
   have ho:S.length<=n:=by omega
   have HN:=zH ho;clear hn ho Hm hw;go_wp2_with fail
   refine(Hv.out _).mono ?_;rintro ed w2 ⟨rfl,Ho⟩;have hj:Hid (Lki w w2 B F S R n):=by rw[<-Ho];exact HK.out.next (zB _) He
   have hp:B<=w2.heap.size:=yh hg.out hj.out.below.size;have hy:=(show Hid (B<=w2.heap.size)from hp);clear Ho HK He hp;go_wp2_with fail
   have Hb:=zH (hj.out.next (zB (.cells (qao (0,Sx.start)) 180)) hy.out);have Hf:Hid (Lkj w (w2.alloc (.cells (qao (0,Sx.start)) 180)) B F S (zN) [] Sr.zero R w2.heap.size):=⟨Hb.out.start HN.out,Hb.out.res,xG _ _,Hb.out.below,Hb.out.le.2.2.2.2,⟨Hb.out.old.1,Hb.out.old.2.2.1⟩,fun k _ _ _ hk _ _=>Hb.out.kp k (ya.1 hk).1⟩;refine(Hl.out _ Hf.out.sv (TabB.kept HT.out Hf.out.below)).mono ?_;rintro ed w6 ⟨⟨r6,rfl⟩,⟨vv',ext,Hp⟩,Hc⟩;have Ha:=zH (Hf.out.turn Hp Hc);clear Hp Hc Hb Hf hj;generalize w2.heap.size=E at Ha |-;by_cases h0:s1.fault.code=0
   rotate_left
   ·have hq:((s1.fault.code:Int)==0)=false:=by rw[yf];omega
    have Hq:((s1.fault.code:Int) != 0)=true:=by rw[bne_iff_ne];omega
    have HX:Hid (r=([],s1.fault)):=by show _=_;rw[hm.out,if_pos h0]
    have H0:=zH h0;have b5:w6.cell? (zO F.g 5)=some (zI (s1.fault.code:Nat)):=Ha.out.sv.se.cell 5 _ rfl;have b6:w6.cell? (zO F.g 6)=some (zI s1.fault.kind):=Ha.out.sv.se.cell 6 _ rfl;have b7:w6.cell? (zO F.g 7)=some (zV s1.fault.place):=Ha.out.sv.se.cell 7 _ rfl;have b8:w6.cell? (zO F.g 8)=some (zI (s1.fault.pos:Nat)):=Ha.out.sv.se.cell 8 _ rfl;have x0:w6.cell? (zO R 0)=some (zI 0):=qaa Ha.out.res 0 _ rfl;have x1:w6.cell? (zO R 1)=some (zI 0):=qaa Ha.out.res 1 _ rfl;have x2:w6.cell? (zO R 2)=some (zS):=qaa Ha.out.res 2 _ rfl;have x3:w6.cell? (zO R 3)=some (zI 0):=qaa Ha.out.res 3 _ rfl;have z0:w6.frozen? (zO R 0)=false:=by simp[World.frozen?,Ha.out.res]
    have z1:w6.frozen? (zO R 1)=false:=by simp[World.frozen?,Ha.out.res]
    have z2:w6.frozen? (zO R 2)=false:=by simp[World.frozen?,Ha.out.res]
    have z3:w6.frozen? (zO R 3)=false:=by simp[World.frozen?,Ha.out.res]
    clear h0;go_wp2_with fail
    go_region
    all_goals
     go_wp2_with fail
     have hf:=Ha.out.set (zI (s1.fault.code:Nat)) (zI s1.fault.kind) (zV s1.fault.place) (zI (s1.fault.pos:Nat));refine qfb results45 rfl R (zN) _ rfl rfl hf.1 _ underlying31 rfl (by kernel_rfl) ?_;exact⟨⟨_,by rw[HX.out];rfl,fun q=>absurd q (by rw[HX.out];exact H0.out)⟩,hf.2.1.drew,hf.2.2.2⟩
   ·have hq:((s1.fault.code:Int)==0)=true:=by rw[h0];rfl
    have b5:w6.cell? (zO F.g 5)=some (zI (s1.fault.code:Nat)):=Ha.out.sv.se.cell 5 _ rfl;have he:=qct Ha.out.ent;have een:qao (0,Sx.start)=#[zI 0,zJ 1,zS,zS,zI 0,zI 0,.bool false,.bool false,zI 0,zI 0,zI 0]:=rfl;rw[een]at he;have m0:=he 0 _ rfl;have m1:=he 1 _ rfl;have m2:=he 2 _ rfl;have m3:=he 3 _ rfl;have m4:=he 4 _ rfl;have m5:=he 5 _ rfl;have m6:=he 6 _ rfl;have m7:=he 7 _ rfl;have m8:=he 8 _ rfl;have m9:=he 9 _ rfl;have m10:=he 10 _ rfl;have Hr:B<=w6.heap.size:=yh hg.out Ha.out.below.size;have hs:=qy3 HB S hS w6 B F vv' s1 (0,Sx.start) len Ha.out.sv.se HI.out.1.ends qmi hl Hr (TabB.kept HT.out Ha.out.below);have Hj:Hid (zC 76 #[zP F.g,.agg #[zI 0,zJ 1,zS,zS,zI 0,zI 0,.bool false,.bool false,zI 0,zI 0,zI 0],zI len] w6 fun ed w'=>(∃r,ed=.returned r)/\SeAt w' B F S vv' (Pl.qh0 S s1 (0,Sx.start) len)/\Cue B F w6 w'):=hs;have Hk:=Pl.q19 S s1 (0,Sx.start) len HI.out.1.ends qmi;have hc:r=if(Pl.qh0 S s1 (0,Sx.start) len).fault.code≠0 then([],(Pl.qh0 S s1 (0,Sx.start) len).fault)else((Pl.qh0 S s1 (0,Sx.start) len).vis,Ft.none):=by rw[hm.out,if_neg (fun q=>q h0)]
    clear hs he een h0 Hr;generalize Pl.qh0 S s1 (0,Sx.start) len=s2 at Hj Hk hc;have Hs:=zH hc;have Ht:=zH Hk;clear hc Hk;go_wp2_with fail
    refine Hj.out.mono ?_;rintro ed w7 ⟨⟨r7,rfl⟩,hu,Hc⟩;have ha:=zH (Ha.out.turn (Ha.out.sv.turn hu Hc Ht.out.1 Ht.out.2) (Cuv.of_cue Ha.out.sv.se Hc));clear hu Hc Ha Hj b5 m0 m1 m2 m3 m4 m5 m6 m7 m8 m9 m10 hq;by_cases h0:s2.fault.code=0
    rotate_left
    ·have Hq:((s2.fault.code:Int) != 0)=true:=by rw[bne_iff_ne];omega
     have HX:Hid (r=([],s2.fault)):=by show _=_;rw[Hs.out,if_pos h0]
     have H0:=zH h0;have b5:w7.cell? (zO F.g 5)=some (zI (s2.fault.code:Nat)):=ha.out.sv.se.cell 5 _ rfl;have b6:w7.cell? (zO F.g 6)=some (zI s2.fault.kind):=ha.out.sv.se.cell 6 _ rfl;have b7:w7.cell? (zO F.g 7)=some (zV s2.fault.place):=ha.out.sv.se.cell 7 _ rfl;have b8:w7.cell? (zO F.g 8)=some (zI (s2.fault.pos:Nat)):=ha.out.sv.se.cell 8 _ rfl;have x0:w7.cell? (zO R 0)=some (zI 0):=qaa ha.out.res 0 _ rfl;have x1:w7.cell? (zO R 1)=some (zI 0):=qaa ha.out.res 1 _ rfl;have x2:w7.cell? (zO R 2)=some (zS):=qaa ha.out.res 2 _ rfl;have x3:w7.cell? (zO R 3)=some (zI 0):=qaa ha.out.res 3 _ rfl;have z0:w7.frozen? (zO R 0)=false:=by simp[World.frozen?,ha.out.res]
     have z1:w7.frozen? (zO R 1)=false:=by simp[World.frozen?,ha.out.res]
     have z2:w7.frozen? (zO R 2)=false:=by simp[World.frozen?,ha.out.res]
     have z3:w7.frozen? (zO R 3)=false:=by simp[World.frozen?,ha.out.res]
     clear h0;go_wp2_with fail
     go_region
     all_goals
      go_wp2_with fail
      have hf:=ha.out.set (zI (s2.fault.code:Nat)) (zI s2.fault.kind) (zV s2.fault.place) (zI (s2.fault.pos:Nat));refine qfb results45 rfl R (zN) _ rfl rfl hf.1 _ underlying31 rfl (by kernel_rfl) ?_;exact⟨⟨_,by rw[HX.out];rfl,fun q=>absurd q (by rw[HX.out];exact H0.out)⟩,hf.2.1.drew,hf.2.2.2⟩
    ·have Hq:((s2.fault.code:Int) != 0)=false:=by rw[h0];rfl
     have HX:Hid (r=(s2.vis,Ft.none)):=by show _=_;rw[Hs.out,if_neg (fun q=>q h0)]
     have b4:w7.cell? (zO F.g 4)=some vv':=ha.out.sv.se.cell 4 _ rfl;have b5:w7.cell? (zO F.g 5)=some (zI (s2.fault.code:Nat)):=ha.out.sv.se.cell 5 _ rfl;have b6:w7.cell? (zO F.g 6)=some (zI s2.fault.kind):=ha.out.sv.se.cell 6 _ rfl;have b7:w7.cell? (zO F.g 7)=some (zV s2.fault.place):=ha.out.sv.se.cell 7 _ rfl;have b8:w7.cell? (zO F.g 8)=some (zI (s2.fault.pos:Nat)):=ha.out.sv.se.cell 8 _ rfl;have x0:w7.cell? (zO R 0)=some (zI 0):=qaa ha.out.res 0 _ rfl;have x1:w7.cell? (zO R 1)=some (zI 0):=qaa ha.out.res 1 _ rfl;have x2:w7.cell? (zO R 2)=some (zS):=qaa ha.out.res 2 _ rfl;have x3:w7.cell? (zO R 3)=some (zI 0):=qaa ha.out.res 3 _ rfl;have z0:w7.frozen? (zO R 0)=false:=by simp[World.frozen?,ha.out.res]
     have z1:w7.frozen? (zO R 1)=false:=by simp[World.frozen?,ha.out.res]
     have z2:w7.frozen? (zO R 2)=false:=by simp[World.frozen?,ha.out.res]
     have z3:w7.frozen? (zO R 3)=false:=by simp[World.frozen?,ha.out.res]
     clear h0;go_wp2_with fail
     have hf:=ha.out.set (zI 0) (zI 0) (zS) (zI 0);refine qfb results45 rfl R vv' _ rfl rfl hf.1 _ underlying31 rfl (by kernel_rfl) ?_;exact⟨⟨_,by rw[HX.out];rfl,fun _=>⟨F,_,s2,hf.2.2.1,by rw[HX.out]⟩⟩,hf.2.1,hf.2.2.2⟩
theorem qna{P:Program}(w:World){ops:Array Oper}{rest:List Oper}{o:Oper}{a:Act}{Q:Exit->Act->World->Prop}
  (hg:o.guard=none) (s x:Operand) (t:TypeId) (ho:o.op=.call { callee:=.builtin .append,args:=#[s,x],argTypes:=#[t,t] }) (sv xv v':Value) (w':World) (hs:a.eval s=sv) (hx:a.eval x=xv)
  (ha:(Builtin.append_ #[t,t] o.type #[sv,xv]).run P w=.ok v' w') (hK:wpList P ops Q rest (a.put o.dst v') w'):wpList P ops Q (o::rest) a w:=by
 refine wpList_plain hg fun K Ha=>?_;unfold Oper.wp execOp;simp only[ho,resolve,invoke,builtin,Sem.run_bind,Sem.run_pure,Result.andThen_ok,List.map_toArray,List.map_cons,List.map_nil,hs,hx,ha];exact Ha _ _ hK
theorem qxx:(prog.info? 38).map (fun i=>(i.zero,i.size,i.bytes))=some (some (.agg #[zS,zS]),2,32):=by kernel_rfl
theorem q1i:(prog.info? 173).map (fun i=>(i.zero,i.size,i.bytes))=some (some (.agg #[zS,zN]),2,40):=by kernel_rfl
def qiz(L:List (zT×zT)):List Value:=L.flatMap fun x=>[.string x.1,.string x.2]
theorem qqn(L:List (zT×zT)):(qiz L).length=L.length*2:=by
 induction L with
 |nil=>rfl
 |cons x L ih=>show(qiz L).length+2=_;rw[ih,yK];omega
theorem qkr:∀(L:List (zT×zT)) (k:Nat) (x:zT×zT),L[k]?=some x->(qiz L)[k*2]?=some (.string x.1)/\(qiz L)[k*2+1]?=some (.string x.2)
 |[],k,x,h=>by simp at h
 |y::L,0,x,h=>by simp at h;subst h;exact⟨rfl,rfl⟩
 |y::L,k+1,x,h=>by
   have:=qkr L k x (by simpa using h);rw[show(k+1)*2=k*2+1+1 by omega,show k*2+1+1+1=(k*2+1)+1+1 by omega];exact this
theorem q45{w:World}{b o:Nat}{L:List (zT×zT)}(h:PoAt w b o L):∀j v,(qiz L)[j]?=some v->w.cell? (((zO b o):Addr).add j)=some v:=by
 intro j v hj;rw[show((zO b o):Addr).add j=(zO b (o+j)) by unfold Addr.add;split<;>simp_all]
 have hl:=(yb.1 hj).1;rw[qqn]at hl;obtain⟨x,hx⟩:∃x,L[j / 2]?=some x:=⟨L[j / 2]'(by omega),yc (by omega)⟩;obtain⟨h1,h2⟩:=qkr L (j / 2) x hx;rcases(show j=j / 2*2\/j=j / 2*2+1 by omega)with e|e
 ·rw[e]at hj |-
  rw[h1]at hj;obtain rfl:=yk hj;exact h.name _ x hx
 ·rw[e]at hj |-
  rw[h2]at hj;obtain rfl:=yk hj;exact h.text _ x hx
theorem all_append(T:zT)(v:Value)(L:List (zT×zT))(w w1:World)(b1:Nat)(hA:qk5 w v L)(hL:L.length<=6)(hb:zW w w1)(h0:w1.cell? (zO b1 0)=some (zS))(h1:w1.cell? (zO b1 1)=some (.string T)) :
  ∃b cap w',(∀ty,(Builtin.append_ #[22,22] ty #[zF b1 1 1,v]).run prog w1=.ok (zF b (L.length+1) cap) w')/\PsAt w' b ((⟨#[]⟩,T)::L)/\zW w1 w':=by
 obtain⟨i0,Hb,he,Hc,He⟩:=info_parts qxx;obtain⟨ao,cap,rfl,Hg,hi,hf⟩:=hA;by_cases hn:L=[]
 ·subst hn
  refine⟨b1,1,w1,fun ty=>?_,⟨fun k x hx=>?_,fun k x hx=>?_⟩,xM _ _⟩
  ·cases ao with
   |none=>simp[Builtin.append_,run_underlying underlying22,sizeOf,typeInfo,Hb,Builtin.lenOf,Builtin.firstCells,storeCells]
   |some a=>simp[Builtin.append_,run_underlying underlying22,sizeOf,typeInfo,Hb,Builtin.lenOf,Builtin.firstCells,storeCells,loadCells,loadCellsFrom]
  ·cases k with
   |zero=>simp at hx;subst hx;exact h0
   |succ k=>simp at hx
  ·cases k with
   |zero=>simp at hx;subst hx;exact h1
   |succ k=>simp at hx
 ·obtain⟨b,o,rfl,Ha⟩:=hf hn
  have Hf:0<L.length:=List.length_pos_iff.2 hn;have hc:PoAt w1 b o L:=⟨fun k x hx=>(hb.cell (p:=zO b (o+k*2)) (xP _ _ (Ha.name k x hx))).trans (Ha.name k x hx),fun k x hx=>(hb.cell (p:=zO b (o+k*2+1)) (xP _ _ (Ha.text k x hx))).trans (Ha.text k x hx)⟩;have hg:=fun ty=>run_append_grow (P:=prog) w1 22 ty 38 i0 _ underlying22 Hb he (zO b1 0) 1 1 [zS,.string T] (by rw[Hc];rfl) (fun j v hj=>by
    match j,hj with
    |0,hj=>simp at hj;subst hj;simpa [Addr.add]using h0
    |1,hj=>simp at hj;subst hj;simpa [Addr.add]using h1) (zO b o) L.length cap (qiz L) (by rw[Hc];exact qqn L) (q45 hc) (by omega) (by omega) (by
      rw[He];have:Builtin.nextslicecap (1+L.length) 1<=7:=by
       rcases(show L.length=1\/L.length=2\/L.length=3\/L.length=4\/L.length=5\/L.length=6 by omega)with e|e|e|e|e|e<;>rw[e]<;>decide
      omega)
  refine⟨w1.heap.size,_,_,fun ty=>by rw[Nat.add_comm L.length 1];exact hg ty,?_,?_⟩
  ·have ha:∀j v,(qiz ((⟨#[]⟩,T)::L))[j]?=some v->(w1.drew.alloc (.cells ([Value.string ⟨#[]⟩,.string T].toArray++(qiz L).toArray++Builtin.zeroCells (Value.agg #[zS,zS]).cells (grownCap w1 (1+L.length) 1 38 - (1+L.length))) 38)).cell? (zO w1.heap.size j)=some v:=fun j v hj=>by
    refine qaa (xG w1.drew _) j v ?_;rw[Array.toList_append,Array.toList_append];rw[yr (by have:=(yb.1 hj).1;simpa [qiz]using this)];exact hj
   refine⟨fun k x hx=>ha _ _ (qkr _ k x hx).1,fun k x hx=>ha _ _ (qkr _ k x hx).2⟩
  ·exact(xM _ _).drew.alloc (yg _) _
theorem q0l(n:Nat)(hn:n<=7)(w:World):(Instr.makeSlice 115 (zI (n:Int)) (zI (n:Int))).run prog w=.ok (zF w.heap.size n n) (w.alloc (.cells (madeCells #[zS,zN] (n*2)) 173)):=by
 obtain⟨i0,ha,Ha,hb,Hb⟩:=info_parts q1i;have hr:=run_make (P:=prog) w 115 173 i0 _ underlying115 ha Ha .i64 .i64 n n (by omega) (Int.le_refl _) (by rw[Hb];omega) (by omega);have e:(Value.agg #[zS,zN]).cells=#[zS,zN]:=rfl;rw[hb,e]at hr;simpa using hr
namespace Pl
theorem qlz:∀(Z:List (zU×zU)),(∀(i:Nat) z,Z[i]?=some z->(qam z.2).1.1=0)->qa5 Z=(Ft.none,Z.map fun z=>⟨z.1,(qam z.2).2⟩)
 |[],_=>rfl
 |(n,t)::l,h=>by
   have h0:(qam t).1.1=0:=h 0 (n,t) rfl;have ih:=qlz l (fun i z hz=>h (i+1) z (by simpa using hz));unfold qa5;rw[if_neg (fun q=>q h0),ih,if_neg (by simp[Ft.none])];rfl
theorem qn1:∀(Z:List (zU×zU)) (k:Nat) (z:zU×zU),(∀(i:Nat) y,i<k->Z[i]?=some y->(qam y.2).1.1=0)->Z[k]?=some z->(qam z.2).1.1≠0->qa5 Z=(⟨2,(qam z.2).1.1,z.1,(qam z.2).1.2⟩,[])
 |[],k,z,_,h,_=>by simp at h
 |(n,t)::l,0,z,_,h,hz=>by
   simp at h;subst h;exact qou hz
 |(n,t)::l,k+1,z,hk,h,hz=>by
   have h0:(qam t).1.1=0:=hk 0 (n,t) (by omega) rfl;have ih:=qn1 l k z (fun i y hi hy=>hk (i+1) y (by omega) (by simpa using hy)) (by simpa using h) hz;unfold qa5;rw[if_neg (fun q=>q h0),ih,if_pos (by simp)]
end Pl
variable{k b g R:Nat}{w wr:World}{f:Nat->Value}
theorem zb1{L:List (zT×zT)}{x:zT×zT}(h:L[k]?=some x):(qau L)[k]?=some (x.1.data.toList,x.2.data.toList):=by
 unfold qau;rw[yz,h];rfl
theorem zb0{L:List (zT×zT)}{z:zU×zU}(h:(qau L)[k]?=some z):∃x,L[k]?=some x/\z=(x.1.data.toList,x.2.data.toList):=by
 unfold qau at h;rw[yz]at h;obtain⟨x,h1,h2⟩:=yy.1 h;exact⟨x,h1,h2.symm⟩
structure CAi(w wr:World)(b g R:Nat)(LL:List (zT×zT))(f:Nat->Value)(k:Nat):Prop where
 ps:PsAt wr b LL
 blk:wr.rowIs g 173 (LL.length*2) f
 name:∀(i:Nat) x,i<k->LL[i]?=some x->f (i*2)=.string x.1
 row:∀(i:Nat) x,i<k->LL[i]?=some x->wr.ownsRow w.heap.size 229 4 (f (i*2+1)) (Pl.qam x.2.data.toList).2.length (qbp (Pl.qam x.2.data.toList).2)
 res:wr.heap[R]?=zK #[zI 0,zI 0,zS,zI 0] 31
 below:zW w wr
 le:w.heap.size<=R/\w.heap.size<=g
 ne:b≠g
theorem CAi.next{w':World}{LL:List (zT×zT)}(h:CAi w wr b g R LL f k)(hb:zW wr w'):CAi w w' b g R LL f k:=
 ⟨⟨fun k x hx=>(hb.cell (p:=zO b (k*2)) (xP _ _ (h.ps.name k x hx))).trans (h.ps.name k x hx),fun k x hx=>(hb.cell (p:=zO b (k*2+1)) (xP _ _ (h.ps.text k x hx))).trans (h.ps.text k x hx)⟩,
  h.blk.of_block (hb.block _ h.blk.lt),h.name,fun i x hi hx=>qab (h.row i x hi hx) (fun q hq=>hb.block q ((h.row i x hi hx).lt q hq).2),(hb.block _ (zL h.res)).trans h.res,h.below.trans (hb.mono h.below.size),h.le,h.ne⟩
theorem qr0:(173:TypeId)≠229:=by decide
theorem CAi.put{LL:List (zT×zT)}(h:CAi w wr b g R LL f k){x:zT×zT}(hx:LL[k]?=some x){v:Value}(hv:wr.ownsRow w.heap.size 229 4 v (Pl.qam x.2.data.toList).2.length (qbp (Pl.qam x.2.data.toList).2)) :
  ∃f',CAi w ((wr.setCell (zO g (k*2)) (.string x.1)).setCell (zO g (k*2+1)) v) b g R LL f' (k+1):=by
 have ha:∀q,q≠g->((wr.setCell (zO g (k*2)) (.string x.1)).setCell (zO g (k*2+1)) v).heap[q]?=wr.heap[q]?:=fun q hq=>(xL _ _ _ _ hq).trans (xL _ _ _ _ hq);have Ha:∀ {u:Value} {n:Nat} {xs:List Value},wr.ownsRow w.heap.size 229 4 u n xs->((wr.setCell (zO g (k*2)) (.string x.1)).setCell (zO g (k*2+1)) v).ownsRow w.heap.size 229 4 u n xs:=fun hu=>qab hu fun q hq=>by
  obtain⟨cur,hc⟩:=qac hu q hq;obtain⟨c,hb,_,_⟩:=h.blk;exact ha q (qae hc hb qr0.symm)
 have Hb:R≠g:=by
  obtain⟨c,hb,_,_⟩:=h.blk;exact qae h.res hb qdm
 have Hc:=(h.blk.set (k*2) (.string x.1)).set (k*2+1) v;refine⟨_,⟨fun i y hy=>(xQ (w:=wr) (ha b h.ne)).trans (h.ps.name i y hy),fun i y hy=>(xQ (w:=wr) (ha b h.ne)).trans (h.ps.text i y hy)⟩,Hc,fun i y hi hy=>?_,fun i y hi hy=>?_,(ha R Hb).trans h.res,(h.below.setCell (p:=zO g (k*2)) h.le.2 _).setCell (p:=zO g (k*2+1)) h.le.2 _,h.le,h.ne⟩
 ·show (if i*2=k*2+1 then v else if i*2=k*2 then .string x.1 else f (i*2))=_
  rw[if_neg (by omega)];by_cases e:i=k
  ·subst e
   rw[if_pos rfl];rw[hx]at hy;obtain rfl:=yk hy;rfl
  ·rw[if_neg (by omega)]
   exact h.name i y (by omega) hy
 ·show World.ownsRow _ _ _ _ (if i*2+1=k*2+1 then v else if i*2+1=k*2 then .string x.1 else f (i*2+1)) _ _
  by_cases e:i=k
  ·subst e
   rw[if_pos rfl];rw[hx]at hy;obtain rfl:=yk hy;exact Ha hv
  ·rw[if_neg (by omega),if_neg (by omega)]
   exact Ha (h.row i y (by omega) hy)
theorem CAi.sources{LL:List (zT×zT)}(h:CAi w wr b g R LL f LL.length):SrcAt wr w.heap.size ⟨0,g,0,0,0,fun i=>f (i*2+1)⟩ ((qau LL).map fun z=>⟨z.1,(Pl.qam z.2).2⟩):=by
 have hx:∀(i:Nat) (s:Src),((qau LL).map fun z=>(⟨z.1,(Pl.qam z.2).2⟩:Src))[i]?=some s->∃x,LL[i]?=some x/\s=⟨x.1.data.toList,(Pl.qam x.2.data.toList).2⟩/\i<LL.length:=fun i s hs=>by
  rw[yz]at hs;obtain⟨z,h1,h2⟩:=yy.1 hs;obtain⟨x,h3,h4⟩:=zb0 h1;exact⟨x,h3,by rw[<-h2,h4],(yb.1 h3).1⟩
 obtain⟨c,hb,hc,_⟩:=h.blk;refine⟨⟨c,_,hb⟩,fun i s hs=>?_,fun i s hs=>?_,fun i s hs=>?_⟩
 ·obtain⟨x,h1,rfl,h3⟩:=hx i s hs
  show wr.cell? (zO g (i*2))=_;rw[h.blk.cell (by omega),h.name i x h3 h1];rfl
 ·obtain⟨x,h1,rfl,h3⟩:=hx i s hs
  exact h.blk.cell (by omega)
 ·obtain⟨x,h1,rfl,h3⟩:=hx i s hs
  exact h.row i x h3 h1
theorem qtp(T:zT)(v:Value)(L:List (zT×zT))(w:World)(hA:qk5 w v L)(hL:L.length<=6)(hm:qa3 w)(hR:qd0 T.data.toList)(Ht:∀p∈L,qd0 p.2.data.toList)(hN:∀p∈L,p.1.size<=100000)(r:Ft×List Src)(hr:qa5 (([],T.data.toList)::qau L)=r) :
  zC 44 #[.string T,v] w fun ed w'=>((r.1.code≠0->ed=.returned (.tuple #[zN,qnt r.1]))/\(r.1.code=0->∃g pv,ed=.returned (.tuple #[zF g r.2.length r.2.length,qnt Ft.none])/\SrcAt w' w.heap.size ⟨0,g,0,0,0,pv⟩ r.2))/\zW w w':=by
 obtain⟨n,hn⟩:∃n,n=L.length+1:=⟨_,rfl⟩;have Hc:zW w ((w.alloc (.cells #[zI 0,zI 0,zS,zI 0] 31)).alloc (.cells #[zS,.string T] 38)):=(zB _).alloc (by simp) _;have Ho:=qap (w.alloc (.cells #[zI 0,zI 0,zS,zI 0] 31)) (.cells #[zS,.string T] 38) (w.heap.size+1) (by simp);obtain⟨b,cap,w2,He,Hg,Hi⟩:=all_append T v L w _ (w.heap.size+1) hA hL Hc (qaa Ho 0 _ rfl) (qaa Ho 1 _ rfl);rw[<-hn]at He;have hj:((⟨#[]⟩,T)::L:List (zT×zT)).length=n:=by rw[hn];rfl
 have Hp:∀p∈((⟨#[]⟩,T)::L:List (zT×zT)),qd0 p.2.data.toList/\p.1.size<=100000:=fun p hp=>by
  rcases xu.1 hp with rfl|hp
  ·exact⟨hR,by show(0:Nat)<=100000;omega⟩
  ·exact⟨Ht p hp,hN p hp⟩
 have hZ:qau ((⟨#[]⟩,T)::L)=([],T.data.toList)::qau L:=rfl;rw[<-hZ]at hr;have HA:=q0l n (by omega);have Hf:w2.heap[w.heap.size]?=zK #[zI 0,zI 0,zS,zI 0] 31:=(Hi.block _ (by simp<;>omega)).trans ((xJ _ _ (by simp)).trans (xG _ _))
 have Hq:CAi w (w2.alloc (.cells (madeCells #[zS,zN] (n*2)) 173)) b w2.heap.size w.heap.size ((⟨#[]⟩,T)::L) (fun i=>if i % 2=0 then zS else zN) 0:=by
  have hB:=(Hc.trans (Hi.mono Hc.size)).alloc (Hc.trans (Hi.mono Hc.size)).size (.cells (madeCells #[zS,zN] (n*2)) 173);have Hl:b<w2.heap.size:=xP _ _ (Hg.name 0 _ rfl);have hg:zW w2 (w2.alloc (.cells (madeCells #[zS,zN] (n*2)) 173)):=zB _;refine⟨⟨fun k x hx=>(hg.cell (p:=zO b (k*2)) Hl).trans (Hg.name k x hx),fun k x hx=>(hg.cell (p:=zO b (k*2+1)) Hl).trans (Hg.text k x hx)⟩,?_,fun i x hi=>absurd hi (xb _),fun i x hi=>absurd hi (xb _),(xJ _ _ (ya.1 Hf).1).trans Hf,hB,⟨yg _,(Hc.trans (Hi.mono Hc.size)).size⟩,Nat.ne_of_lt Hl⟩;refine⟨_,xG _ _,by rw[size_madeCells,hj],fun i hi=>?_⟩;rw[hj]at hi;unfold madeCells;rw[Array.getElem?_map,Array.getElem?_range,if_pos hi];simp only[Option.map_some,Option.some.injEq];rcases Nat.mod_two_eq_zero_or_one i with e|e
  ·rw[if_pos e];show(#[Value.string ⟨#[]⟩,Value.slice none 0 0][i % 2]!)=_;rw[e];rfl
  ·rw[if_neg (by omega)];show(#[Value.string ⟨#[]⟩,Value.slice none 0 0][i % 2]!)=_;rw[e];rfl
 generalize ((⟨#[]⟩,T)::L:List (zT×zT))=LL at hj Hp hr Hq Hg;have HR:=(show Hid (qa5 (qau LL)=r)from hr);have HB:=zH Hp;have Hm:=zH Hq;have HM:=(show Hid (qa3 w)from hm);have hF:(n:Int)<=7:=by omega
 have he:=zH hj;clear hA hL hm hR Ht hN hr Hc Ho Hg Hi hn hj Hp hZ Hf Hq;go_enter func44,ntmps44
 go_wp2_with (at_builtin;refine qna _ rfl _ _ 22 rfl _ _ _ w2 rfl rfl (He _) ?_)
 clear He HA;generalize w2.heap.size=g at Hm |-;generalize World.alloc w2 _=w3 at Hm |-;go_loopw [23] (fun i wr=>∃(k:Nat) (f:Nat->Value),k<=n/\i=zI k/\Hid (CAi w wr b g w.heap.size LL f k/\∀(i:Nat) y,i<k->(qau LL)[i]?=some y->(qam y.2).1.1=0)) (fun i _=>n - (intOf i).toNat)
 case atStart=>exact⟨0,_,yH _,rfl,Hm.out,fun i y hi=>absurd hi (xb _)⟩
 case round=>
  obtain⟨k,f,hk,rfl,HC⟩:=hrel;clear Hm;by_cases Hl:k<n
  ·have Hr:(k:Int)<(n:Int):=by omega
   have hC:=he.out;obtain⟨x,hx⟩:∃x,LL[k]?=some x:=⟨LL[k]'(by omega),yc (by omega)⟩;have p0:wr.cell? (zO b (k*2))=some (.string x.1):=HC.out.1.ps.name k x hx;have p1:wr.cell? (zO b (k*2+1))=some (.string x.2):=HC.out.1.ps.text k x hx;obtain⟨hu,Hu⟩:=HB.out x (yl hx);have Hv:=zH (fun w=>qyz x.1 w Hu);have Ha:=zH (fun w hm=>qz6 x.2 w hm hu);have HX:=zH hx;have hw:=zb1 hx;have Hs:=zH hw;clear hC hx hu Hu hw;obtain⟨N,X⟩:=x;simp only at p0 p1 Hv Ha HX Hs;obtain⟨sl,ht⟩:∃sl,sl=qam X.data.toList:=⟨_,rfl⟩;rw[<-ht]at Ha;unfold qg8 at Ha;have Hn:=zH ht;clear ht;go_wp2_with fail
   refine xR (Hv.out _) ?_;rintro ed w4 ⟨rfl,hg⟩;have ho:=(show Hid _ from(HC.out.1.next (zB (.cells #[.string N,.string X] 38))).next hg);have t1:w4.cell? (zO wr.heap.size 1)=some (.string X):=qaa ((hg.block wr.heap.size (by simp)).trans (xG wr _)) 1 _ rfl;clear hg p0 p1;go_wp2_with fail
   have Hw:qa3 w4:=HM.out.below ho.out.below;refine xR (Ha.out _ Hw) ?_;rintro ed w5 ⟨⟨v5,rfl,Hb⟩,Hx⟩;have ha:=zH (ho.out.next Hx);have hD:=zH ho.out.below.size;clear Hx t1 ho Hw;by_cases hz:sl.1.1=0
   ·have HD:((sl.1.1:Int) != 0)=false:=by rw[hz];rfl
    have HF:(sl.1.1:Int)=0:=by omega
    obtain⟨ao5,cap5,rfl⟩:=qaq (Hb hz);have Hj:=(show Hid _ from(Hb hz).mono hD.out);have g0:∀o,∃u,(w5.alloc o).cell? (zO g (k*2))=some u:=fun o=>⟨_,(ha.out.next (zB o)).blk.cell (by have:=he.out;omega)⟩;have g1:∀o,∃u,(w5.alloc o).cell? (zO g (k*2+1))=some u:=fun o=>⟨_,(ha.out.next (zB o)).blk.cell (by have:=he.out;omega)⟩;obtain⟨u0,g0⟩:∃u0,∀o,(w5.alloc o).cell? (zO g (k*2))=some u0:=⟨_,fun o=>(ha.out.next (zB o)).blk.cell (by have:=he.out;omega)⟩;obtain⟨u1,g1⟩:∃u1,∀o,(w5.alloc o).cell? (zO g (k*2+1))=some u1:=⟨_,fun o=>(ha.out.next (zB o)).blk.cell (by have:=he.out;omega)⟩;have z0:∀o,(w5.alloc o).frozen? (zO g (k*2))=false:=fun o=>(ha.out.next (zB o)).blk.frozen _;have z1:∀o,(w5.alloc o).frozen? (zO g (k*2+1))=false:=fun o=>(ha.out.next (zB o)).blk.frozen _;have HZ:=zH hz;clear Hb hz;go_wp2_with fail
    go_roundw
    case rel=>
     have hE:=HX.out;have HE:=qab Hj.out (w':=w5.alloc (.cells #[zI 0,zI sl.1.2] 169)) (fun q hq=>xJ _ _ (World.ownsRow.lt Hj.out q hq).2);obtain⟨f',hf⟩:=(ha.out.next (zB (.cells #[zI 0,zI sl.1.2] 169))).put hE (v:=.slice ao5 sl.2.length cap5) (by show World.ownsRow _ _ _ _ _ (qam X.data.toList).2.length (qbp (qam X.data.toList).2);rw[<-Hn.out];exact HE);refine⟨k+1,f',by omega,by go_num,?_,fun i y hi hy=>?_⟩
     ·exact hf
     ·by_cases e:i=k
      ·subst e
       rw[Hs.out]at hy;obtain rfl:=yk hy;show(qam X.data.toList).1.1=0;rw[<-Hn.out];exact HZ.out
      ·exact HC.out.2 i y (by omega) hy
    case measure=>simp[intOf];omega
   ·have HD:((sl.1.1:Int) != 0)=true:=by rw[bne_iff_ne];omega
    have Hy:(⟨N.data.toList.toArray⟩:zT)=N:=by cases N;simp
    have Hk:Hid (qnt r.1=.agg #[zI 2,zI (sl.1.1:Nat),.string N,zI (sl.1.2:Nat)]/\r.1.code=2):=by
     have h1:=Pl.qn1 (qau LL) k (N.data.toList,X.data.toList) HC.out.2 Hs.out (by show(qam X.data.toList).1.1≠0;rw[<-Hn.out];exact hz);rw[HR.out]at h1;simp only[<-Hn.out]at h1;show _/\_;rw[h1];refine⟨?_,rfl⟩;show Value.agg #[_,_,.string (⟨N.data.toList.toArray⟩:zT),_]=_;rw[Hy];rfl
    have x0:∀o,(w5.alloc o).cell? (zO w.heap.size 0)=some (zI 0):=fun o=>qaa (ha.out.next (zB o)).res 0 _ rfl;have x1:∀o,(w5.alloc o).cell? (zO w.heap.size 1)=some (zI 0):=fun o=>qaa (ha.out.next (zB o)).res 1 _ rfl;have x2:∀o,(w5.alloc o).cell? (zO w.heap.size 2)=some (zS):=fun o=>qaa (ha.out.next (zB o)).res 2 _ rfl;have x3:∀o,(w5.alloc o).cell? (zO w.heap.size 3)=some (zI 0):=fun o=>qaa (ha.out.next (zB o)).res 3 _ rfl;have y0:∀o,(w5.alloc o).frozen? (zO w.heap.size 0)=false:=fun o=>by simp[World.frozen?,(ha.out.next (zB o)).res]
    have y1:∀o,(w5.alloc o).frozen? (zO w.heap.size 1)=false:=fun o=>by simp[World.frozen?,(ha.out.next (zB o)).res]
    have y2:∀o,(w5.alloc o).frozen? (zO w.heap.size 2)=false:=fun o=>by simp[World.frozen?,(ha.out.next (zB o)).res]
    have y3:∀o,(w5.alloc o).frozen? (zO w.heap.size 3)=false:=fun o=>by simp[World.frozen?,(ha.out.next (zB o)).res]
    have Hz:=zH (ha.out.next (zB (.cells #[zI (sl.1.1:Nat),zI (sl.1.2:Nat)] 169)));clear Hb hz Hy;go_wp2_with fail
    go_region
    all_goals
     go_wp2_with fail
     have hf:=qhg Hz.out.res (zI 2) (zI (sl.1.1:Nat)) (.string N) (zI (sl.1.2:Nat));have hb:=(((Hz.out.below.setCell (p:=zO w.heap.size 0) (yg _) (zI 2)).setCell (p:=zO w.heap.size 1) (yg _) (zI (sl.1.1:Nat))).setCell (p:=zO w.heap.size 2) (yg _) (.string N)).setCell (p:=zO w.heap.size 3) (yg _) (zI (sl.1.2:Nat));refine qfb results44 rfl w.heap.size (zN) _ rfl rfl hf _ underlying31 rfl (by kernel_rfl) ?_;exact⟨⟨fun _=>by rw[Hk.out.1],fun q=>absurd q (by rw[Hk.out.2];omega)⟩,hb.drew⟩
  ·have Hr:¬(k:Int)<(n:Int):=by omega
   obtain rfl:k=n:=by omega
   have Hk:Hid (r=(Ft.none,(qau LL).map fun z=>⟨z.1,(qam z.2).2⟩)):=by
    show _=_;rw[<-HR.out];exact Pl.qlz _ fun i z hz=>HC.out.2 i z (by have:=(yb.1 hz).1;unfold qau at this;rw[yR,he.out]at this;exact this) hz
   have HS:Hid (SrcAt wr w.heap.size ⟨0,g,0,0,0,fun i=>f (i*2+1)⟩ r.2/\r.2.length=k):=by
    have h1:=HC.out.1;rw[<-he.out]at h1;show _/\_;rw[Hk.out];refine⟨h1.sources,?_⟩;unfold qau;rw[yR,yR,he.out]
   have x0:wr.cell? (zO w.heap.size 0)=some (zI 0):=qaa HC.out.1.res 0 _ rfl;have x1:wr.cell? (zO w.heap.size 1)=some (zI 0):=qaa HC.out.1.res 1 _ rfl;have x2:wr.cell? (zO w.heap.size 2)=some (zS):=qaa HC.out.1.res 2 _ rfl;have x3:wr.cell? (zO w.heap.size 3)=some (zI 0):=qaa HC.out.1.res 3 _ rfl;have y0:wr.frozen? (zO w.heap.size 0)=false:=by simp[World.frozen?,HC.out.1.res]
   have y1:wr.frozen? (zO w.heap.size 1)=false:=by simp[World.frozen?,HC.out.1.res]
   have y2:wr.frozen? (zO w.heap.size 2)=false:=by simp[World.frozen?,HC.out.1.res]
   have y3:wr.frozen? (zO w.heap.size 3)=false:=by simp[World.frozen?,HC.out.1.res]
   go_wp2_with fail
   have hf:=qhg HC.out.1.res (zI 0) (zI 0) (zS) (zI 0);have hb:=(((HC.out.1.below.setCell (p:=zO w.heap.size 0) (yg _) (zI 0)).setCell (p:=zO w.heap.size 1) (yg _) (zI 0)).setCell (p:=zO w.heap.size 2) (yg _) (zS)).setCell (p:=zO w.heap.size 3) (yg _) (zI 0);have hl:∀q,q≠w.heap.size->((((wr.setCell (zO w.heap.size 0) (zI 0)).setCell (zO w.heap.size 1) (zI 0)).setCell (zO w.heap.size 2) (zS)).setCell (zO w.heap.size 3) (zI 0)).heap[q]?=wr.heap[q]?:=fun q hq=>(xL _ _ _ _ hq).trans ((xL _ _ _ _ hq).trans ((xL _ _ _ _ hq).trans (xL _ _ _ _ hq)));refine qfb results44 rfl w.heap.size (zF g k k) _ rfl rfl hf _ underlying31 rfl (by kernel_rfl) ?_;refine⟨⟨fun q=>absurd (by rw[Hk.out];rfl) q,fun _=>⟨g,(by rw[HS.out.2];rfl),fun i=>f (i*2+1),SrcAt.kept HS.out.1 ?_ ?_⟩⟩,hb⟩
   ·obtain⟨cs,fz,hc⟩:=HS.out.1.blk
    exact hl _ (qae hc HC.out.1.res qdm.symm)
   ·intro i s q hs hv
    obtain⟨cur,hc⟩:=qac (HS.out.1.row i s hs) q hv;exact hl _ (qae hc HC.out.1.res qfk.symm)
theorem zev(HB:qhp)(S:List Src)(hS:SrcsOk S):∀k,ThrC S k:=by
 intro k
 induction k with
 |zero=>
   intro w B F vv M s e h hp hk ht;have:=hp.inv.few;have:=hp.inv.ends.few;omega
 |succ k ih=>exact zeu HB S hS k ih
namespace Pl
theorem qq0{n:zU}(h:qa4 n=true):n.length<=8:=by
 unfold qa4 at h;simp only[yL,yN]at h;exact h.2.1
theorem qn0:∀(Z:List (zU×zU)),(qa5 Z).1.code=0->(qa5 Z).2=(Z.map fun z=>⟨z.1,(qam z.2).2⟩)/\∀(i:Nat) z,Z[i]?=some z->(qam z.2).1.1=0
 |[],_=>⟨rfl,fun i z h=>by simp at h⟩
 |(n,t)::l,h=>by
   unfold qa5 at h |-;by_cases h0:(qam t).1.1=0
   ·rw[if_neg (fun q=>q h0)]at h |-
    by_cases h1:(qa5 l).1.code=0
    ·rw[if_neg (fun q=>q h1)]at h |-
     obtain⟨k1,k2⟩:=qn0 l h1;refine⟨by rw[k1];rfl,fun i z hz=>?_⟩;cases i with
     |zero=>simp at hz;subst hz;exact h0
     |succ i=>exact k2 i z (by simpa using hz)
    ·rw[if_pos h1]at h;exact absurd h h1
   ·rw[if_pos h0]at h;cases h
end Pl
theorem q0d(t:zU)(P:List (zU×zU))(h6:P.length<=6)(ha:qhn (P.map (·.1))=true)(hc:(Pl.qa5 (([],t)::P)).1.code=0):SrcsOk (Pl.qa5 (([],t)::P)).2:=by
 obtain⟨h1,h2⟩:=Pl.qn0 _ hc;rw[h1];have Hb:∀(i:Nat) (a:Src),((([],t)::P).map fun z=>(⟨z.1,(Pl.qam z.2).2⟩:Src))[i]?=some a->∃z,(([],t)::P)[i]?=some z/\a=⟨z.1,(Pl.qam z.2).2⟩:=fun i a h=>by
  rw[yz]at h;obtain⟨z,e1,e2⟩:=yy.1 h;exact⟨z,e1,e2.symm⟩
 have Hc:∀(i:Nat) (z:zU×zU),(([],t)::P)[i+1]?=some z->(P.map (·.1))[i]?=some z.1:=fun i z h=>by
  rw[yT]at h;rw[yz,h];rfl
 have Ha:=(Pl.qfi _).1 ha;refine⟨by simp;omega,fun i j a b hi hj h3 h4 he=>?_,fun i a h3=>?_,fun i a h3=>?_,fun i a h3=>?_⟩
 ·obtain⟨i,rfl⟩:∃k,i=k+1:=⟨i - 1,by omega⟩
  obtain⟨j,rfl⟩:∃k,j=k+1:=⟨j - 1,by omega⟩;obtain⟨z,e1,rfl⟩:=Hb _ _ h3;obtain⟨y,e2,rfl⟩:=Hb _ _ h4;have he:z.1=y.1:=he;have n1:=Hc i z e1;have n2:=Hc j y e2;rcases Nat.lt_trichotomy i j with q|q|q
  ·exact absurd (he▸n1) ((Ha j y.1 n2).2 i q)
  ·omega
  ·exact absurd (he▸n2) ((Ha i z.1 n1).2 j q)
 ·obtain⟨z,e1,rfl⟩:=Hb _ _ h3
  show z.1.length<=_;cases i with
  |zero=>simp at e1;subst e1;simp
  |succ i=>have:=Pl.qq0 (Ha i z.1 (Hc i z e1)).1;omega
 ·obtain⟨z,e1,rfl⟩:=Hb _ _ h3
  have hz:=h2 i z e1;have hb:=zdg z.2 hz;have hk:=qrh z.2 hz;have He:=q99 z.2;refine⟨yh hk.2 hb.1,fun p hp=>⟨yh (hb.2 p hp).text hb.1,yh (He.2 p hp).pos hb.1,yh (hb.2 p hp).mate hb.1⟩⟩
 ·obtain⟨z,e1,rfl⟩:=Hb _ _ h3
  exact(qrh z.2 (h2 i z e1)).1
variable{w wr w':World}{P R:Nat}
theorem qhw{P:Program}{fn:Func}{R:Ending->World->Prop}{a:Act}{p q:Tmp}{tp tq:TypeId}(h:fn.results=#[.cell p tp,.cell q tq])(ha:a.defers=[])(g1 g2:Nat)(c1 c2:Array Value)(hp:a.tmps.getD p undef=zP g1)(hq:a.tmps.getD q undef=zP g2)
  (Ha:w.heap[g1]?=zK c1 tp) (hb:w.heap[g2]?=zK c2 tq) (d1 d2:TypeDesc) (Hb:P.underlying tp=some d1) (hc:P.underlying tq=some d2) (Hc:aggD d1=true) (he:aggD d2=true) (He:(P.info? tp).map (·.size)=some c1.size) (hf:(P.info? tq).map (·.size)=some c2.size) (hR:R (.returned (.tuple #[.agg c1,.agg c2])) w):bodyPost P fn R .ret a w:=by
 refine bodyPost_ret ?_ ha hR;have Hf:=qbb (P:=P) w g1 tp c1 d1 (qaa Ha) Hb (by cases d1<;>first|rfl|cases Hc) He
 have hg:=qbb (P:=P) w g2 tq c2 d2 (qaa hb) hc (by cases d2<;>first|rfl|cases he) hf
 rw[yZ]at hp hq;simp only[results,h];simp[hp,hq,asAddr,Hf,hg]
def qck(L:List (zT×zT)):Bool:=decide (L.length<=6) && qhn (qbq L)
theorem qlv(L:List (zT×zT)):(qau L).map (·.1)=qbq L:=by
 unfold qau qbq;rw[List.map_map];rfl
theorem ql5(v:Value)(L:List (zT×zT))(w:World)(hA:qk5 w v L):zC 43 #[v] w (zR (.bool (qck L)) w):=by
 obtain⟨ao,cap,rfl,h1,h2,h3⟩:=hA;unfold qck;by_cases h6:L.length<=6
 ·rw[yV h6,Bool.true_and]
  by_cases hn:L=[]
  ·subst hn
   refine cm (qzh ao cap w) ?_;exact⟨rfl,xM _ _⟩
  ·obtain⟨b,o,rfl,hp⟩:=h3 hn
   refine(qzg b o cap L w hp h6).mono ?_;rintro e w' ⟨rfl,m,rfl⟩;exact⟨rfl,qat (xM _ _) m⟩
 ·rw[yx h6,Bool.false_and]
  refine cm (qzi ao L.length cap w (by omega)) ?_;exact⟨rfl,xM _ _⟩
structure Mki(w wr:World)(P R:Nat):Prop where
 pl:wr.heap[P]?=zK #[zN] 77
 ft:wr.heap[R]?=zK #[zI 0,zI 0,zS,zI 0] 31
 below:zW w wr
 le:w.heap.size<=P/\w.heap.size<=R
 ne:P≠R
theorem Mki.next(h:Mki w wr P R)(hb:zW wr w'):Mki w w' P R:=
 ⟨(hb.block _ (ya.1 h.pl).1).trans h.pl,(hb.block _ (ya.1 h.ft).1).trans h.ft,h.below.trans (hb.mono h.below.size),h.le,h.ne⟩
theorem Mki.keeps{B:Nat}(h:Mki w wr P R)(hk:zdu wr w')(hb:Below B wr w')(hB:w.heap.size<=B):Mki w w' P R:=
 ⟨(hk _ _ _ _ h.pl (by decide) (by decide)).trans h.pl,(hk _ _ _ _ h.ft (by decide) (by decide)).trans h.ft,h.below.trans (hb.mono hB),h.le,h.ne⟩
theorem Mki.start(w:World):Mki w ((w.alloc (.cells #[zN] 77)).alloc (.cells #[zI 0,zI 0,zS,zI 0] 31)) w.heap.size (w.heap.size+1):=
 ⟨(xJ _ _ (by simp)).trans (xG _ _),qap _ _ _ (by simp),(zB _).alloc (by simp) _,⟨yg _,by omega⟩,by omega⟩
theorem Mki.set(h:Mki w wr P R)(u v0 v1 v2 v3:Value) :
  (((((wr.setCell (zO P 0) u).setCell (zO R 0) v0).setCell (zO R 1) v1).setCell (zO R 2) v2).setCell (zO R 3) v3).heap[P]?=zK #[u] 77 /\
  (((((wr.setCell (zO P 0) u).setCell (zO R 0) v0).setCell (zO R 1) v1).setCell (zO R 2) v2).setCell (zO R 3) v3).heap[R]?=zK #[v0,v1,v2,v3] 31 /\
  zW w (((((wr.setCell (zO P 0) u).setCell (zO R 0) v0).setCell (zO R 1) v1).setCell (zO R 2) v2).setCell (zO R 3) v3):=by
 have h1:(wr.setCell (zO P 0) u).heap[P]?=zK #[u] 77:=xH _ _ _ _ _ _ h.pl;have h2:(wr.setCell (zO P 0) u).heap[R]?=_:=(xL _ _ _ _ h.ne.symm).trans h.ft;refine⟨?_,qhg h2 _ _ _ _,?_⟩
 ·exact(xL _ _ _ _ h.ne).trans ((xL _ _ _ _ h.ne).trans ((xL _ _ _ _ h.ne).trans ((xL _ _ _ _ h.ne).trans h1)))
 ·exact((((h.below.setCell (p:=zO P 0) h.le.1 u).setCell (p:=zO R 0) h.le.2 v0).setCell (p:=zO R 1) h.le.2 v1).setCell (p:=zO R 2) h.le.2 v2).setCell (p:=zO R 3) h.le.2 v3
theorem Mki.sv(h:Mki w wr P R){B:Nat}{F:Fix}{S:List Src}{vv:Value}{M:List Nat}{s:Sr}(hs:SvAt wr B F S vv M s)(u v0 v1 v2 v3:Value) :
  SvAt (((((wr.setCell (zO P 0) u).setCell (zO R 0) v0).setCell (zO R 1) v1).setCell (zO R 2) v2).setCell (zO R 3) v3) B F S vv M s:=
 (hs.other h.pl (by decide) (by decide) (by decide) (by decide) (by decide) 0 u).fault4 ((xL _ _ _ _ h.ne.symm).trans h.ft) v0 v1 v2 v3
theorem Mki.beside(h:Mki w wr P R){E:Nat}(hE:w.heap.size<=E)(h1:P≠E)(h2:R≠E)(v0 v1 v2 v3:Value):Mki w ((((wr.setCell (zO E 0) v0).setCell (zO E 1) v1).setCell (zO E 2) v2).setCell (zO E 3) v3) P R:=
 have e:∀q,q≠E->((((wr.setCell (zO E 0) v0).setCell (zO E 1) v1).setCell (zO E 2) v2).setCell (zO E 3) v3).heap[q]?=wr.heap[q]?:=fun _ hk=>(xL _ _ _ _ hk).trans ((xL _ _ _ _ hk).trans ((xL _ _ _ _ hk).trans (xL _ _ _ _ hk)))
 ⟨(e _ h1).trans h.pl,(e _ h2).trans h.ft,(((h.below.setCell (p:=zO E 0) hE v0).setCell (p:=zO E 1) hE v1).setCell (p:=zO E 2) hE v2).setCell (p:=zO E 3) hE v3,h.le,h.ne⟩
theorem Mki.cells(h:Mki w wr P R):wr.cell? (zO P 0)=some (zN)/\wr.frozen? (zO P 0)=false/\wr.cell? (zO R 0)=some (zI 0)/\wr.cell? (zO R 1)=some (zI 0)/\wr.cell? (zO R 2)=some (zS)/\wr.cell? (zO R 3)=some (zI 0)/\wr.frozen? (zO R 0)=false/\wr.frozen? (zO R 1)=false/\wr.frozen? (zO R 2)=false/\wr.frozen? (zO R 3)=false:=
 ⟨qaa h.pl 0 _ rfl,by simp[World.frozen?,h.pl],qaa h.ft 0 _ rfl,qaa h.ft 1 _ rfl,qaa h.ft 2 _ rfl,qaa h.ft 3 _ rfl,by simp[World.frozen?,h.ft],by simp[World.frozen?,h.ft],by simp[World.frozen?,h.ft],by simp[World.frozen?,h.ft]⟩
theorem qxg(T:zT)(v:Value)(L:List (zT×zT))(w:World)(hA:qk5 w v L)(hf:qck L=false) :
  zC 29 #[.string T,v] w (zR (.tuple #[.agg #[zN],.agg #[zI 1,zI 0,zS,zI 0]]) w):=by
 have h1:=fun w1 (hb:zW w w1)=>ql5 v L w1 (hA.kept hb);rw[hf]at h1;have H1:=zH h1;clear h1 hf hA;go_enter func29,ntmps29
 go_wp2_with fail
 refine(H1.out _ (Mki.start w).below).mono ?_;rintro ed w1 ⟨rfl,hb⟩;have HK:=(show Hid _ from(Mki.start w).next hb);obtain⟨p0,q0,x0,x1,x2,x3,y0,y1,y2,y3⟩:=HK.out.cells;clear hb;go_wp2_with fail
 have hs:=HK.out.set (zN) (zI 1) (zI 0) (zS) (zI 0);refine qhw results29 rfl w.heap.size (w.heap.size+1) _ _ rfl rfl hs.1 hs.2.1 _ _ underlying77 underlying31 rfl rfl (by kernel_rfl) (by kernel_rfl) ?_;exact⟨rfl,hs.2.2⟩
end
variable{w w' w1:World}{B g:Nat}{S:List Src}{pv:Nat->Value}{RL:Nat->List Rm}{vp ve:Value}
def qfl(pv:Nat->Value):Nat->List zT->List Value
 |_,[]=>[]
 |i,n::l=>.string n::pv i::qfl pv (i+1) l
theorem qir(pv:Nat->Value):∀(l:List zT) (i:Nat),(qfl pv i l).length=l.length*2
 |[],_=>rfl
 |n::l,i=>by show(qfl pv (i+1) l).length+2=_;rw[qir pv l (i+1),yK];omega
theorem qoa(pv:Nat->Value):∀(l:List zT) (i:Nat) (n:zT),qfl pv i (l++[n])=qfl pv i l++[.string n,pv (i+l.length)]
 |[],i,n=>rfl
 |m::l,i,n=>by
   show Value.string m::pv i::qfl pv (i+1) (l++[n])=_;rw[qoa pv l (i+1) n,show i+1+l.length=i+(m::l).length by simp;omega];rfl
theorem qki(pv:Nat->Value):∀(l:List zT) (i k:Nat) (n:zT),l[k]?=some n->(qfl pv i l)[k*2]?=some (.string n)/\(qfl pv i l)[k*2+1]?=some (pv (i+k))
 |[],i,k,n,h=>by simp at h
 |m::l,i,0,n,h=>by
   simp only[yS,Option.some.injEq]at h;subst h;exact⟨rfl,rfl⟩
 |m::l,i,k+1,n,h=>by
   have:=qki pv l (i+1) k n (by simpa using h);rw[show i+1+k=i+(k+1) by omega]at this;rw[show(k+1)*2=k*2+2 by omega];exact this
theorem qob{pv pv':Nat->Value}:∀(l:List zT) (i:Nat),(∀j,j<l.length->pv (i+j)=pv' (i+j))->qfl pv i l=qfl pv' i l
 |[],_,_=>rfl
 |m::l,i,h=>by
   have h0:pv i=pv' i:=h 0 (by simp);have h1:=qob (pv:=pv) (pv':=pv') l (i+1) (fun j hj=>by
    have:=h (j+1) (by rw[yK];omega)
    rwa [show i+(j+1)=i+1+j by omega]at this)
   show Value.string m::pv i::qfl pv (i+1) l=Value.string m::pv' i::qfl pv' (i+1) l;rw[h0,h1]
structure TpAt(w:World)(B g:Nat)(S:List Src)(N:List zT)(pv:Nat->Value)(RL:Nat->List Rm)(vp ve:Value):Prop where
 blk:w.heap[g]?=zK #[pv 0,vp,ve] 101
 le:B<=g
 parts:w.ownsRow B 134 2 vp N.length (qfl pv 1 N)
 row:∀i s,S[i]?=some s->w.ownsRow B 136 6 (pv i) (RL i).length (qd8 (RL i))/\RmsOf (RL i) s.parts
theorem TpAt.same{N:List zT}(h:TpAt w B g S N pv RL vp ve)(hg:w'.heap[g]?=w.heap[g]?)(hp:∀k,vp.ownBlock=some k->w'.heap[k]?=w.heap[k]?)(hr:∀i s k,S[i]?=some s->(pv i).ownBlock=some k->w'.heap[k]?=w.heap[k]?):TpAt w' B g S N pv RL vp ve:=
 ⟨hg.trans h.blk,h.le,qab h.parts hp,fun i s hs=>⟨qab (h.row i s hs).1 fun k hk=>hr i s k hs hk,(h.row i s hs).2⟩⟩
theorem TpAt.kept{N:List zT}(h:TpAt w B g S N pv RL vp ve)(hb:zW w w'):TpAt w' B g S N pv RL vp ve:=
 h.same (hb.block _ (zL h.blk)) (fun k hk=>hb.block k (h.parts.lt k hk).2) fun i s k hs hk=>hb.block k ((h.row i s hs).1.lt k hk).2
theorem TpAt.drew{N:List zT}(h:TpAt w B g S N pv RL vp ve):TpAt w.drew B g S N pv RL vp ve:=h.same rfl (fun _ _=>rfl) fun _ _ _ _ _=>rfl
theorem qlh:(101:TypeId)≠134:=by decide
theorem qwe:(101:TypeId)≠136:=by decide
theorem qub:(134:TypeId)≠136:=by decide
theorem TpAt.apart{N:List zT}(h:TpAt w B g S N pv RL vp ve)(hb:zW w w1)(Ha:w1.grownBy w' vp.ownBlock){k:Nat}{cs:Array Value}{t:TypeId}{fz:Nat×Nat}(hk:w.heap[k]?=some (.cells cs t fz))(ht:t≠134):w'.heap[k]?=w.heap[k]?:=by
 have ha:=(ya.1 hk).1;refine(Ha.block k (yi ha hb.size) (fun e=>?_)).trans (hb.block k ha);obtain⟨cur,hc⟩:=qac h.parts k e.symm;exact qae hk hc ht rfl
theorem TpAt.ahead{N:List zT}(h:TpAt w B g S N pv RL vp ve)(hb:zW w w1)(ha:w1.grownBy w' vp.ownBlock):w'.cell? (zO g 1)=some vp/\w'.frozen? (zO g 1)=false:=by
 have hg:=(h.apart hb ha h.blk qlh).trans h.blk;exact⟨qaa hg 1 _ rfl,xI _ _ 1 _ _ hg⟩
theorem TpAt.more{N:List zT}{vp':Value}(h:TpAt w B g S N pv RL vp ve)(Hb:S.length=N.length+1)(hb:zW w w1){n:zT}{u:Value}{R:List Rm}{s:Src}(hu:w.ownsRow B 136 6 u R.length (qd8 R))(hR:RmsOf R s.parts)(Ha:w'.ownsRow B 134 2 vp' (N.length+1) (qfl pv 1 N++[.string n,u]))(Hc:w1.grownBy w' vp.ownBlock)(He:vp'.ownBlock≠some g) :
  TpAt (w'.setCell (zO g 1) vp') B g (S++[s]) (N++[n]) (fun i=>if i=N.length+1 then u else pv i) (fun i=>if i=N.length+1 then R else RL i) vp' ve:=by
 have hg:=(h.apart hb Hc h.blk qlh).trans h.blk;have ha:∀k,k≠g->(w'.setCell (zO g 1) vp').heap[k]?=w'.heap[k]?:=fun k hk=>xL _ _ _ _ hk;have he:∀(v:Value) (m:Nat) (xs:List Value),w.ownsRow B 136 6 v m xs->(w'.setCell (zO g 1) vp').ownsRow B 136 6 v m xs:=fun v m xs hv=>qab hv fun k hk=>by
  obtain⟨cur,hc⟩:=qac hv k hk;exact(ha k (fun e=>qae h.blk hc qwe e.symm)).trans (h.apart hb Hc hc qub.symm)
 refine⟨?_,h.le,?_,fun i s' hs=>?_⟩
 ·rw[show (if 0=N.length+1 then u else pv 0)=pv 0 from if_neg (by omega)]
  exact xH w' g 1 _ _ _ hg
 ·rw[yJ,qoa,qob (pv':=pv) N 1 (fun j hj=>if_neg (by omega)),if_pos (by omega)]
  exact qab Ha fun k hk=>ha k (fun e=>He (by rw[<-e];exact hk))
 ·by_cases q:i<S.length
  ·rw[yr q]at hs
   rw[if_neg (by omega),if_neg (by omega)];exact⟨he _ _ _ (h.row i s' hs).1,(h.row i s' hs).2⟩
  ·have h1:=(yb.1 hs).1
   rw[yJ]at h1;simp only[yK,yQ]at h1;have e:i=S.length:=by omega
   subst e;rw[yt (yg _),xA]at hs;simp at hs;subst hs;rw[if_pos Hb,if_pos Hb];exact⟨he _ _ _ hu,hR⟩
def tkF(T:zT)(L:List (zT×zT)):Ft×List Src:=if qck L=false then(⟨1,0,[],0⟩,[])else qa5 (([],T.data.toList)::qau L)
def qt1(w:World)(T:zT)(L:List (zT×zT))(e:Ending)(w':World):Prop:=
 (∃p,e=.returned (.tuple #[p,qnt (tkF T L).1])/\((tkF T L).1.code=0->∃g pv RL vp,p=zP g/\TpAt w' w.heap.size g (tkF T L).2 (L.map (·.1)) pv RL vp (zN)))/\zW w w'
def qq8:Array Value:=#[zI 0,zI 0,zS,zI 0]
def set4(w:World)(g:Nat)(v0 v1 v2 v3:Value):World:=(((w.setCell (zO g 0) v0).setCell (zO g 1) v1).setCell (zO g 2) v2).setCell (zO g 3) v3
theorem qj1{t:TypeId}(h:w.heap[g]?=zK qq8 t)(v0 v1 v2 v3:Value):(set4 w g v0 v1 v2 v3).heap[g]?=zK #[v0,v1,v2,v3] t:=by
 have h1:=xH w g 0 _ _ v0 h;have h2:=xH _ g 1 _ _ v1 h1;have h3:=xH _ g 2 _ _ v2 h2;exact xH _ g 3 _ _ v3 h3
theorem qim{a:World}(h:Below B a w)(hg:B<=g)(v0 v1 v2 v3:Value):Below B a (set4 w g v0 v1 v2 v3):=
 (((h.setCell (p:=zO g 0) hg v0).setCell (p:=zO g 1) hg v1).setCell (p:=zO g 2) hg v2).setCell (p:=zO g 3) hg v3
theorem zcr:(prog.info? 31).map (·.size)=some 4:=by kernel_rfl
theorem q39{X:World}{T:zT}{L:List (zT×zT)}{a:Act}{f:Ft}{p:Value}(hX:X.heap[w.heap.size]?=zK #[zI f.code,zI f.kind,bs f.place,zI f.pos] 31)(hb:zW w X)(hv:(tkF T L).1=f)
  (hp:a.tmps.getD 5 undef=zP w.heap.size) (h4:a.tmps.getD 4 undef=p) (ha:a.defers=[]) (hk:f.code=0->∃g pv RL vp,p=zP g/\TpAt X w.heap.size g (tkF T L).2 (L.map (·.1)) pv RL vp (zN)) :
  bodyPost prog f32 (qt1 w T L) .ret a X:=by
 refine bodyPost_ret (qe4 (cs:=#[zI f.code,zI f.kind,bs f.place,zI f.pos]) results32 a.tmps _ w.heap.size _ hp (qaa hX) underlying31 rfl zcr) ha ?_;rw[h4];exact⟨⟨p,by rw[hv];rfl,fun h=>hk (by rw[<-hv];exact h)⟩,hb⟩
def tkZ(T:zT)(L:List (zT×zT)):List (zU×zU):=([],T.data.toList)::qau L
def tkS(Z:List (zU×zU)):List Src:=Z.map fun z=>⟨z.1,(qam z.2).2⟩
structure TkAt(w wr:World)(T:zT)(L:List (zT×zT))(g k:Nat)(pv:Nat->Value)(RL:Nat->List Rm)(vp:Value):Prop where
 res:wr.heap[w.heap.size]?=zK qq8 31
 tp:TpAt wr w.heap.size g (tkS ((tkZ T L).take (k+1))) ((L.map (·.1)).take k) pv RL vp (zN)
 below:zW w wr
 fine:∀i z,i<k+1->(tkZ T L)[i]?=some z->(qam z.2).1.1=0
theorem qol{B' n k:Nat}{e:TypeId}{v:Value}{xs:List Value}(h:w.ownsRow B e k v n xs)(hB:B'<=B):w.ownsRow B' e k v n xs:=by
 refine⟨h.1,h.2.imp id ?_⟩;rintro⟨g,cap,cur,h1,h2,h3⟩;exact⟨g,cap,cur,h1,yh hB h2,h3⟩
theorem q1x:(Value.agg #[zS,zN]).cells.size=2:=rfl
theorem q50:(prog.info? 134).map (fun i=>(i.zero,i.size,i.bytes))=some (some (.agg #[zS,zN]),2,40):=by kernel_rfl
section
open Go Go.Lib Go.Shelf
variable{g:Nat}{vv dv:Value}{e:Ev}{K:List Pc}{w0:World}
theorem q9a:(prog.info? 55).map (fun i=>(i.zero,i.size,i.bytes))=some (some (.agg #[zI 0,zI 0,zI 0]),3,24):=by kernel_rfl
theorem WrV.pushH{B:Nat}{w w1 w':World}{o:Wt}{sv hv p v:Value}(h:WrV w B g vv dv e K o sv hv p v)(hb:zW w w1)(x:Nat×Nat×Int){v':Value}
  (Hc:w'.ownsRow B 55 3 v' (o.holes.length+1) (qhd o.holes++[zI (x.1:Nat),zI (x.2.1:Nat),zI x.2.2])) (he:w1.grownBy w' hv.ownBlock) (hf:v'.ownBlock=hv.ownBlock\/v'.ownBlock=some w1.heap.size) :
  (w'.cell? (zO g 7)=some hv/\w'.frozen? (zO g 7)=false)/\WrV (w'.setCell (zO g 7) v') B g vv dv e K { o with hg:=o.holes++[x] } sv v' p v/\Rn B g w (w'.setCell (zO g 7) v'):=by
 have h1:=h.below hb;have Hg:g<w1.heap.size:=(zL h1.wb.blk);have ha:=(he.block g Hg (fun e=>qju h1.ho h1.wb.blk (by decide) e.symm)).trans h1.wb.blk;have Ha:∀i,i≠g->(w'.setCell (zO g 7) v').heap[i]?=w'.heap[i]?:=fun i hi=>xL _ _ _ _ hi;have Hi:=xH _ _ 7 _ _ v' ha;have Hj:B<=w1.heap.size:=yh h1.wb.le (yj Hg);have Hk:v.ownBlock=none\/v.ownBlock≠some g:=Or.inr h1.wb.ne;have Hf:Below B w (w'.setCell (zO g 7) v'):=((hb.mono (yh h.wb.le (yj (zL h.wb.blk)))).trans ((xM B w1).grown he Hj (fun k e=>q2w h1.ho e))).setCell (p:=zO g 7) h.wb.le _;refine⟨⟨qaa ha 7 _ rfl,by simp[World.frozen?,ha]⟩,⟨⟨h1.wb.le,Hi,?_,h1.wb.adr,h1.wb.nil⟩,?_,?_⟩,⟨Hf,fun k ob hk hn _=>?_,fun k hk=>?_⟩⟩
 ·exact(h1.wb.own.kept (row:=hv.ownBlock) he (qsz h1.wb.own h1.ho (by decide))).kept (row:=some g) ⟨rfl,rfl,rfl,by simp[World.setCell],fun i _ hi=>Ha i (fun e=>hi (by simp[e]))⟩ Hk
 ·refine qab h1.st fun b He=>?_
  obtain⟨cur,hc⟩:=qac h1.st b He;exact(Ha b (fun e=>by subst e;exact qju h1.st h1.wb.blk (by decide) He)).trans (he.block b (ya.1 hc).1 (q8o (qxb h1.st h1.ho (by decide)) He))
 ·show World.ownsRow _ _ _ _ _ (o.holes++[x]).length (qhd (o.holes++[x]))
  rw[qx1,yJ];exact qab Hc fun b He=>Ha b (fun e=>by subst e;exact qju Hc ha (by decide) He)
 ·have hj:=(ya.1 hk).1
  have hl:=(hb.block k hj).trans hk;have Hb:=h.wb.all;exact(Ha k (fun e=>hn (.inl e))).trans ((he.block k (yi hj hb.size) (fun e=>hn (.inr (.inr ⟨hv,Hb.2.2.2.2.2.1,e.symm⟩)))).trans hl)
 ·have Hb:=h.wb.all
  have c:=qaa Hi;rcases hk with rfl|⟨s2,h5,h6⟩|⟨s2,h5,h6⟩
  ·exact .inl (.inl rfl)
  ·rw[c 3 _ rfl]at h5
   obtain rfl:=yk h5;exact .inl (.inr (.inl ⟨_,Hb.2.2.2.1,h6⟩))
  ·rw[c 7 _ rfl]at h5
   obtain rfl:=yk h5;rcases hf with h7|h7
   ·exact .inl (.inr (.inr ⟨hv,Hb.2.2.2.2.2.1,by rw[<-h7];exact h6⟩))
   ·rw[h7]at h6
    have:=yk h6;have:=hb.size;exact .inr (by omega)
theorem zcu(o:Wt)(as':Int)(nm:zT)(so:Option Addr)(sn scap:Nat)(w:World)(z:Int)(hz:z≠0)(c3:w.cell? (zO g 3)=some (.slice so sn scap))
  (hF:Hid (zC 175 #[.slice so sn scap,.string nm] w fun ed w1=>∃pa pn pcap pk,ed=.returned (.agg #[.slice pa pn pcap,zI (pk:Nat)]) /\
   Hid (zC 176 #[.agg #[.slice pa pn pcap,zI (pk:Nat)]] w1 fun ed w2=>∃t,ed=.returned (.string t) /\
    Hid (zC 64 #[zI as',.string t] w2 fun ed w3=>∃x,ed=.returned (.tuple #[.string x,zI z])/\Hid (OutC w0 g vv dv e K (o,z) w (.returned (zI z)) w3))))) :
  zC 126 #[zP g,.string nm,zI as'] w (OutC w0 g vv dv e K (o,z) w):=by
 go_enter func126,ntmps126
 go_wp2_with (first
  |(go_at_call 64;refine xR HV.out ?_;rintro ed w3 ⟨x,rfl,HO⟩)
  |(go_at_call 176;refine xR HT.out ?_;rintro ed w2 ⟨t,rfl,HV⟩)
  | (go_at_call 175;refine xR hF.out ?_;rintro ed w1 ⟨pa,pn,pcap,pk,rfl,HT⟩))
 go_ret
 exact HO.out
theorem zfy(o4:Wt)(n1 n2:Nat)(as':Int)(nm:zT)(so:Option Addr)(sn scap:Nat)(w:World)(z:Int)(hl:o4.out.length=n2)(Hn:o4.holes.length<=5001)(c3:w.cell? (zO g 3)=some (.slice so sn scap))
  (hF:Hid (zC 175 #[.slice so sn scap,.string nm] w fun ed w1=>∃pa pn pcap pk,ed=.returned (.agg #[.slice pa pn pcap,zI (pk:Nat)]) /\
   Hid (zC 176 #[.agg #[.slice pa pn pcap,zI (pk:Nat)]] w1 fun ed w2=>∃t,ed=.returned (.string t) /\
    Hid (zC 64 #[zI as',.string t] w2 fun ed w3=>∃tx,ed=.returned (.tuple #[.string tx,zI 0])/\Hid (zC 174 #[.pointer (some (zO g 5))] w3 (zQ (zI (n1:Nat)) w3)) /\
     Hid (zC 125 #[zP g,.string tx] w3 fun ed w4=>ed=.returned (zI z)/\Hid (WrAt w4 w0.heap.size g vv dv e K o4/\Rn w0.heap.size g w w4/\w0.heap.size<=w4.heap.size)))))) :
  zC 126 #[zP g,.string nm,zI as'] w (OutC w0 g vv dv e K ({ o4 with Hf:=o4.holes++[(n1,n2,as')] },z) w):=by
 have hk:Enters prog 174:=enters_of func174 (by kernel_rfl) rfl;obtain⟨i0,Hg,hi,Hi,hj⟩:=info_parts q9a;go_enter func126,ntmps126
 go_wp2_with (first
  |(go_at_call 125;refine xR HW.out ?_;rintro ed w4 ⟨rfl,H4⟩)
  |(go_at_call 174;refine cm HL.out ?_)
  |(go_at_call 64;refine xR HV.out ?_;rintro ed w3 ⟨tx,rfl,HL,HW⟩)
  |(go_at_call 176;refine xR HT.out ?_;rintro ed w2 ⟨t,rfl,HV⟩)
  | (go_at_call 175;refine xR hF.out ?_;rintro ed w1 ⟨pa,pn,pcap,pk,rfl,HT⟩))
 obtain⟨⟨sv,hv,bp,bv,He⟩,Hj,Hl⟩:=H4.out;have hc:zW w4 (w4.alloc (.cells #[zI (n1:Nat),zI (n2:Nat),zI as'] 55)).drew:=(zB _).drew;have Hb:=(He.below hc).ho;have Hm:∃ho hn hcap,hv=.slice ho hn hcap:=by
  rcases He.ho.2 with⟨h1,_⟩|⟨b,cap,cur,h1,_⟩
  ·exact⟨_,_,_,h1⟩
  ·exact⟨_,_,_,h1⟩
 obtain⟨ho,hn,hcap,rfl⟩:=Hm;have g7:w4.cell? (zO g 7)=some (.slice ho hn hcap):=He.wb.all.2.2.2.2.2.1;have gd:w4.drew.cell? (zO g 7)=some (.slice ho hn hcap):=g7;have ga:(w4.alloc (.cells #[zI (n1:Nat),zI (n2:Nat),zI as'] 55)).drew.cell? (zO g 7)=some (.slice ho hn hcap):=(hc.cell (p:=zO g 7) (zL He.wb.blk)).trans g7;have hf:zC 174 #[.pointer (some (zO g 5))] w4.drew fun ed w'=>ed=.returned (zI (n2:Nat))/\w4.drew=w':=by
  have:=za3 w4.drew w0.heap.size g _ _ _ _ _ _ _ _ _ He.wb.drew
  rwa [hl]at this
 refine Code.wp_mono (Q:=fun ex a' w'=>ex=.normal/\∃Hk cap3,a'={ tmps:=#[zP g,.string nm,zI as',undef,undef,undef,zI 0,.string tx,zI z,zI (n1:Nat),.tuple #[.string tx,zI 0],zI as',zP g,zP g,.pointer (some (zO g 3)),.slice so sn scap,.string nm,.agg #[.slice pa pn pcap,zI (pk:Nat)],.string t,.tuple #[.string tx,zI 0],.string tx,zI 0,zI 0,.bool false,undef,zP g,zP g,.pointer (some (zO g 5)),zI (n1:Nat),zP g,.string tx,zI z,zP g,zP g,zP g,.pointer (some (zO g 7)),.slice ho hn hcap,zI (n1:Nat),zP g,zP g,.pointer (some (zO g 5)),zI (n2:Nat),zI as',.agg #[zI (n1:Nat),zI (n2:Nat),zI as'],zF w4.heap.size 1 1,.slice Hk (o4.holes.length+1:Nat) cap3,zP g,.pointer (some (zO g 7)),undef],defers:=[] }/\Hid (WrAt w' w0.heap.size g vv dv e K { o4 with Hf:=o4.holes++[(n1,n2,as')] }/\Rn w0.heap.size g w4 w')) (fun ex a' w5 hm=>?rest) ?reg
 case reg=>
  refine wp_region_held_drew (S:=fun _=>True) (by kernel_rfl) trivial (fun _=>?_);refine qbf (i:=0) (zP g) rfl (by kernel_rfl) (by kernel_rfl) (by kernel_rfl) (fun _ _ _ h=>by cases h.1) rfl (fun X _=>?_) trivial ?_
  ·go_simp
  refine qbf (i:=1) (zP g) rfl (by kernel_rfl) (by kernel_rfl) (by kernel_rfl) (fun _ _ _ h=>by cases h.1) rfl (fun X _=>?_) trivial ?_
  ·go_simp
  refine qbf (i:=2) (zP g) rfl (by kernel_rfl) (by kernel_rfl) (by kernel_rfl) (fun _ _ _ h=>by cases h.1) rfl (fun X _=>?_) trivial ?_
  ·go_simp
  refine qbf (i:=3) (.pointer (some (zO g 7))) rfl (by kernel_rfl) (by kernel_rfl) (by kernel_rfl) (fun _ _ _ h=>by cases h.1) rfl (fun X _=>?_) trivial ?_
  ·go_simp
  refine qbf (i:=5) (zI (n1:Nat)) rfl (by kernel_rfl) (by kernel_rfl) (by kernel_rfl) (fun _ _ _ h=>by cases h.1) rfl (fun X _=>?_) trivial ?_
  ·go_simp
  refine qbf (i:=6) (zP g) rfl (by kernel_rfl) (by kernel_rfl) (by kernel_rfl) (fun _ _ _ h=>by cases h.1) rfl (fun X _=>?_) trivial ?_
  ·go_simp
  refine qbf (i:=7) (zP g) rfl (by kernel_rfl) (by kernel_rfl) (by kernel_rfl) (fun _ _ _ h=>by cases h.1) rfl (fun X _=>?_) trivial ?_
  ·go_simp
  refine qbf (i:=8) (.pointer (some (zO g 5))) rfl (by kernel_rfl) (by kernel_rfl) (by kernel_rfl) (fun _ _ _ h=>by cases h.1) rfl (fun X _=>?_) trivial ?_
  ·go_simp
  refine qbf (i:=10) (zI as') rfl (by kernel_rfl) (by kernel_rfl) (by kernel_rfl) (fun _ _ _ h=>by cases h.1) rfl (fun X _=>?_) trivial ?_
  ·go_simp
  refine wpAnyH_ready (rs:=[4,9]) (by kernel_rfl) (by simp) (AllReadyH.cons rfl (fun K' ha=>?_) (AllReadyH.cons rfl (fun K' ha=>?_) AllReadyH.nil))
  ·go_simp
   refine ha.out _ _ trivial (fun _=>?_);clear ha K';refine rd (r:=9) (by kernel_rfl) rfl (fun K' ha=>?_);refine qji rfl 174 #[.tmp 40] #[153] rfl hk (fun v' x=>v'=zI (n2:Nat)/\x=w4.drew) #[.pointer (some (zO g 5))] (by simp[Act.eval]) (hf.mono ?_) ?_
   ·rintro e2 x' ⟨rfl,rfl⟩
    exact⟨_,rfl,rfl,rfl⟩
   rintro _ _ ⟨rfl,rfl⟩;refine ha.out _ _ trivial (fun _=>?_);clear ha K';refine rd (r:=11) (by kernel_rfl) rfl (fun K' ha=>?_);go_simp
   refine ha.out _ _ trivial (fun _=>?_);clear ha K';refine rd (r:=12) (by kernel_rfl) rfl (fun K' ha=>?_);go_simp
   refine ha.out _ _ trivial (fun _=>?_);clear ha K';refine rd (r:=13) (by kernel_rfl) rfl (fun K' ha=>?_);refine qa6 rfl (.tmp 36) (.tmp 44) 49 rfl w0.heap.size 55 i0 (.agg #[zI 0,zI 0,zI 0]) 3 24 underlying49 Hg hi Hi hj rfl (by decide) (.slice ho hn hcap) o4.holes.length _ (by simp[Act.eval]) Hb (zO w4.heap.size 0) 1 1 [zI (n1:Nat),zI (n2:Nat),zI as'] (by simp[Act.eval]) rfl (qcn w4 _ _) (by simp[Value.oneCell']) (by unfold maxLen;omega) (by omega) (by show w0.heap.size<=(w4.alloc _).heap.size;rw[qcf];omega) ?_;intro v' w6 Ha hg Hc;obtain⟨g3,cap3,rfl,_,_⟩:=qai Ha (by omega);obtain⟨⟨q3,q4⟩,hb,he⟩:=WrV.pushH He hc (n1,n2,as') Ha hg Hc;refine ha.out _ _ trivial (fun _=>?_);clear ha K';refine rd (r:=14) (by kernel_rfl) rfl (fun K' ha=>?_);go_simp
   refine ha.out _ _ trivial (fun _=>?_);clear ha K';refine rd (r:=15) (by kernel_rfl) rfl (fun K' ha=>?_);go_simp
   refine ha.out _ _ trivial (fun _=>?_);clear ha K';refine rd (r:=16) (by kernel_rfl) rfl (fun K' ha=>?_);go_simp
   refine ha.out _ _ trivial (fun _=>?_);refine wpAnyH_done (by kernel_rfl) ?_ _;exact⟨rfl,some (zO g3 0),cap3,rfl,⟨_,_,_,_,hb⟩,he⟩
  ·skip
   refine qji rfl 174 #[.tmp 40] #[153] rfl hk (fun v' x=>v'=zI (n2:Nat)/\x=w4.drew) #[.pointer (some (zO g 5))] (by simp[Act.eval,Act.put]) (hf.mono ?_) ?_
   ·rintro e2 x' ⟨rfl,rfl⟩
    exact⟨_,rfl,rfl,rfl⟩
   rintro _ _ ⟨rfl,rfl⟩;refine ha.out _ _ trivial (fun _=>?_);clear ha K';refine qbf (i:=11) (.agg #[zI (n1:Nat),zI (n2:Nat),zI as']) rfl (by kernel_rfl) (by kernel_rfl) (by kernel_rfl) (fun _ _ _ h=>by cases h.1) rfl (fun X _=>?_) trivial ?_
   ·go_simp
   refine wpAnyH_ready (rs:=[4,12]) (by kernel_rfl) (by simp) (AllReadyH.cons rfl (fun K' ha=>?_) (AllReadyH.cons rfl (fun K' ha=>?_) AllReadyH.nil))
   ·go_simp
    refine ha.out _ _ trivial (fun _=>?_);clear ha K';refine rd (r:=12) (by kernel_rfl) rfl (fun K' ha=>?_);go_simp
    refine ha.out _ _ trivial (fun _=>?_);clear ha K';refine rd (r:=13) (by kernel_rfl) rfl (fun K' ha=>?_);refine qa6 rfl (.tmp 36) (.tmp 44) 49 rfl w0.heap.size 55 i0 (.agg #[zI 0,zI 0,zI 0]) 3 24 underlying49 Hg hi Hi hj rfl (by decide) (.slice ho hn hcap) o4.holes.length _ (by simp[Act.eval]) Hb (zO w4.heap.size 0) 1 1 [zI (n1:Nat),zI (n2:Nat),zI as'] (by simp[Act.eval]) rfl (qcn w4 _ _) (by simp[Value.oneCell']) (by unfold maxLen;omega) (by omega) (by show w0.heap.size<=(w4.alloc _).heap.size;rw[qcf];omega) ?_;intro v' w6 Ha hg Hc;obtain⟨g3,cap3,rfl,_,_⟩:=qai Ha (by omega);obtain⟨⟨q3,q4⟩,hb,he⟩:=WrV.pushH He hc (n1,n2,as') Ha hg Hc;refine ha.out _ _ trivial (fun _=>?_);clear ha K';refine rd (r:=14) (by kernel_rfl) rfl (fun K' ha=>?_);go_simp
    refine ha.out _ _ trivial (fun _=>?_);clear ha K';refine rd (r:=15) (by kernel_rfl) rfl (fun K' ha=>?_);go_simp
    refine ha.out _ _ trivial (fun _=>?_);clear ha K';refine rd (r:=16) (by kernel_rfl) rfl (fun K' ha=>?_);go_simp
    refine ha.out _ _ trivial (fun _=>?_);refine wpAnyH_done (by kernel_rfl) ?_ _;exact⟨rfl,some (zO g3 0),cap3,rfl,⟨_,_,_,_,hb⟩,he⟩
   ·go_simp
    refine ha.out _ _ trivial (fun _=>?_);clear ha K';refine rd (r:=4) (by kernel_rfl) rfl (fun K' ha=>?_);go_simp
    refine ha.out _ _ trivial (fun _=>?_);clear ha K';refine rd (r:=13) (by kernel_rfl) rfl (fun K' ha=>?_);refine qa6 rfl (.tmp 36) (.tmp 44) 49 rfl w0.heap.size 55 i0 (.agg #[zI 0,zI 0,zI 0]) 3 24 underlying49 Hg hi Hi hj rfl (by decide) (.slice ho hn hcap) o4.holes.length _ (by simp[Act.eval]) Hb (zO w4.heap.size 0) 1 1 [zI (n1:Nat),zI (n2:Nat),zI as'] (by simp[Act.eval]) rfl (qcn w4 _ _) (by simp[Value.oneCell']) (by unfold maxLen;omega) (by omega) (by show w0.heap.size<=(w4.alloc _).heap.size;rw[qcf];omega) ?_;intro v' w6 Ha hg Hc;obtain⟨g3,cap3,rfl,_,_⟩:=qai Ha (by omega);obtain⟨⟨q3,q4⟩,hb,he⟩:=WrV.pushH He hc (n1,n2,as') Ha hg Hc;refine ha.out _ _ trivial (fun _=>?_);clear ha K';refine rd (r:=14) (by kernel_rfl) rfl (fun K' ha=>?_);go_simp
    refine ha.out _ _ trivial (fun _=>?_);clear ha K';refine rd (r:=15) (by kernel_rfl) rfl (fun K' ha=>?_);go_simp
    refine ha.out _ _ trivial (fun _=>?_);clear ha K';refine rd (r:=16) (by kernel_rfl) rfl (fun K' ha=>?_);go_simp
    refine ha.out _ _ trivial (fun _=>?_);refine wpAnyH_done (by kernel_rfl) ?_ _;exact⟨rfl,some (zO g3 0),cap3,rfl,⟨_,_,_,_,hb⟩,he⟩
 case rest=>
  obtain⟨rfl,Hk,cap3,rfl,H5⟩:=hm;clear gd ga hf g7 hc Hb He hF;go_wp2
  go_ret
  exact⟨rfl,⟨K,H5.out.1,fun _=>rfl⟩,Hj.trans H5.out.2⟩
variable{w0:World}{g M f:Nat}{vv dv:Value}{e:Ev}
theorem zcv(hE:Evm w0 vv dv e M)(K:List Pc)(o:Wt)(w:World)(h:Wst w0 g vv dv e M K o w)(hS:FinS e M o)(nm:zT)(hi:nm.size<=100000)(as':Int) :
  zC 126 #[zP g,.string nm,zI as'] w (OutC w0 g vv dv e K (e.hole K o nm.data.toList as') w):=by
 obtain⟨sv,hv,bp,bv,hq⟩:=id h.at';have hc:=hq.stk;obtain⟨so,cap,rfl,_,_⟩:=id hc;have c3:w.cell? (zO g 3)=some (.slice so K.length cap):=hq.wb.all.2.2.2.1;obtain⟨q,Hf⟩:∃q,qe3 e.D K nm.data.toList=q:=⟨_,rfl⟩;obtain⟨pa,pn,pcap,Hi⟩:=qgu hE.ds q;have hg:qe0 dv q=.agg #[.slice pa pn pcap,zI (pcI q)]:=by rw[qdk,Hi]
 have hF:=q3j dv (.slice so K.length cap) e.D K nm w0.heap.size w h.base.size (hE.ds.below h.base) hc (hE.ml.below h.base) hi h.ne;rw[Hf,hg]at hF;have hT:∀w1,zW w w1->zC 176 #[.agg #[.slice pa pn pcap,zI (pcI q)]] w1 fun ed w2=>ed=.returned (bs (qc7 (qbe e.D q)))/\zW w1 w2:=fun w1 hb=>by
  have Ha:=h.base.trans (hb.mono h.base.size);have:=zbf dv e.D q w0.heap.size w1 Ha.size (hE.ds.below Ha) hE.num (hE.pow.below Ha hE.powB) hE.powB
  rwa [hg]at this
 have hV:∀w2,zW w w2->zC 64 #[zI as',bs (qc7 (qbe e.D q))] w2 fun ed w3=>ed=.returned (.tuple #[bs (qgn as' (qc7 (qbe e.D q))),zI (qor as')])/\zW w2 w3:=fun w2 hb=>by
  have Ha:=h.base.trans (hb.mono h.base.size);exact q66 as' ⟨(qc7 (qbe e.D q)).toArray⟩ w2 (hE.tabs.kept Ha hE.tabs.lt) (by simp only[ByteArray.size,List.size_toArray];exact hE.shows q)
 by_cases hz:qor as'≠0
 ·have e1:e.hole K o nm.data.toList as'=(o,qor as'):=by unfold Ev.hole;rw[if_pos hz]
  rw[e1];refine zcu o as' nm so K.length cap w _ hz c3 (hF.mono ?_);rintro ed w1 ⟨rfl,Ha⟩;refine⟨_,_,_,_,rfl,(hT w1 Ha).mono ?_⟩;rintro ed w2 ⟨rfl,he⟩;have ha:=Ha.trans (he.mono Ha.size);refine⟨_,rfl,(hV w2 ha).mono ?_⟩;rintro ed w3 ⟨rfl,He⟩;have Hb:=ha.trans (He.mono ha.size);exact⟨_,rfl,rfl,⟨K,(h.below Hb).at',fun _=>rfl⟩,h.rn Hb⟩
 ·obtain⟨tx,hf⟩:∃tx,qgn as' (qc7 (qbe e.D q))=tx:=⟨_,rfl⟩
  have e1:e.hole K o nm.data.toList as'=({ (e.put o tx).1 with holes:=(e.put o tx).1.holes++[(o.out.length,(e.put o tx).1.out.length,as')] },(e.put o tx).2):=by
   unfold Ev.hole;rw[if_neg hz,Hf,hf,qjr]
  rw[e1];have hj:qor as'=0:=by simpa using hz
  have hl:tx.length<=M:=by rw[<-hf];exact hE.small.2 as' q
  have Hl:=hS.out;have Hj:=hS.steps;have hm:=hE.bound;have hk:o.steps*M<=5000*M:=xF _ Hj;have Hk:(e.put o tx).1.holes.length<=5001:=by rw[qjr];have:=hS.holes;omega
  refine zfy (e.put o tx).1 o.out.length (e.put o tx).1.out.length as' nm so K.length cap w _ rfl Hk c3 (hF.mono ?_);rintro ed w1 ⟨rfl,Ha⟩;refine⟨_,_,_,_,rfl,(hT w1 Ha).mono ?_⟩;rintro ed w2 ⟨rfl,he⟩;have ha:=Ha.trans (he.mono Ha.size);refine⟨_,rfl,(hV w2 ha).mono ?_⟩;rintro ed w3 ⟨rfl,He⟩;have Hb:=ha.trans (He.mono ha.size);rw[hf,hj];have Hc:=hq.below Hb;refine⟨⟨tx.toArray⟩,rfl,za3 w3 w0.heap.size g _ _ _ _ _ _ _ _ _ Hc.wb,(q2g w3 w0.heap.size g _ _ _ _ _ e o _ _ Hc.wb tx (by omega) ⟨hE.room,h.fin.room⟩).mono ?_⟩;rintro ed w4 ⟨rfl,⟨p',v',h1⟩,h2,h3⟩;have Hg:WbAt w4 w0.heap.size g vv (zI e.depth) (zI e.room) (.slice so K.length cap) (zI (e.put o tx).1.steps) hv (e.put o tx).1.out p' v':=by rw[qfp];exact h1
  exact⟨rfl,⟨_,_,_,_,Hc.turn Hg h3 (qjr e o tx)⟩,(h.rn Hb).trans (Rn.of_wb Hc.wb Hg h2 h3),yh h.base.size (yh Hb.size h2.size)⟩
theorem zfe(hE:Evm w0 vv dv e M)(K:List Pc)(o:Wt)(w:World)(h:Wst w0 g vv dv e M K o w)(hS:FinS e M o)(t:zU)(ht:t.length<=M) :
  zC 125 #[zP g,bs t] w (OutC w0 g vv dv e K (e.put o t) w):=by
 obtain⟨sv,hv,bp,bv,hq⟩:=id h.at';have hb:=hS.out;have Ha:o.steps*M<=5000*M:=xF _ hS.steps;have Hb:=hE.bound;refine(q2g w w0.heap.size g _ _ _ _ _ e o _ _ hq.wb t (by omega) ⟨hE.room,h.fin.room⟩).mono ?_;rintro ed w4 ⟨rfl,⟨p',v',h1⟩,h2,h3⟩;have ha:WbAt w4 w0.heap.size g vv (zI e.depth) (zI e.room) sv (zI (e.put o t).1.steps) hv (e.put o t).1.out p' v':=by rw[qfp];exact h1
 exact⟨rfl,⟨K,⟨_,_,_,_,hq.turn ha h3 (qjr e o t)⟩,fun _=>rfl⟩,Rn.of_wb hq.wb ha h2 h3⟩
theorem qqc(hE:Evm w0 vv dv e M)(HP:qrx w0 g vv dv e M f)(v fr:Nat)(qad:Int)(p:Pt)(K:List Pc)(o:Wt)(w:World)(po:Option Addr)(pcap gm:Nat)(hv:ViOne w0 e v po pcap gm)(hm:p.mate<=(e.parts v).length)(hk:p.kind=3\/p.kind=4)(hp:p.text.length<=100000)(Ha:0<=qad)(Hb:qad<=50)(h:Wst w0 g vv dv e M K o w)(hf:5001<=f+o.steps)(hK:K.length<=o.steps) :
  zC 127 #[zP g,.agg #[zI (p.kind:Nat),zI (p.pos:Nat),bs p.text,zI (p.mate:Nat)],qjl po (e.parts v).length pcap gm fr p.mate qad] w (OutC w0 g vv dv e K (e.section (fun K o=>qdo (e.run f v fr p.mate qad K) o) K p.kind p.text o) w):=by
 have ha:∀K' (o':Wt),o'.steps<=5000->o'.steps<=(qdo (e.run f v fr p.mate qad K') o').1.steps/\(qdo (e.run f v fr p.mate qad K') o').1.steps<=5000:=fun K' o' ho=>qht (fun x hx=>qqd e f v fr p.mate qad K' x hx) o' ho;have hb:(ByteArray.mk p.text.toArray).data.toList=p.text:=by simp
 refine qwr hE f (fun K o=>qdo (e.run f v fr p.mate qad K) o) po (e.parts v).length pcap gm fr p.mate qad (fun K' o' w' h1 h2 h3=>zdo HP v fr p.mate qad K' o' w' po pcap gm hv hm Ha Hb h1 h2 h3)
  (fun K' o' ho=>qkl ho fun ho=>qup hE.small _ _ _ _ _ _ _ ho.fin) (fun K' o' ho=>(ha K' o' ho).1) p.kind p.pos p.mate hk ⟨p.text.toArray⟩ (by simp only[ByteArray.size,List.size_toArray];exact hp) K o w h hf hK _ (by rw[hb])
theorem q7i(w:World)(g bv n cap v:Nat)(po:Option Addr)(pn pcap gm:Nat)(qad:Int)(R:Ending->World->Prop)(z:Int)(hv:(v:Int)<(n:Int))(c0:w.cell? (zO g 0)=some (zF bv n cap))(v0:w.cell? (zO bv (v*2))=some (.slice po pn pcap))(v1:w.cell? (zO bv (v*2+1))=some (zF gm pn pn))
  (hP:Hid (zC 90 #[zP g,.agg #[.slice po pn pcap,zF gm pn pn,zI 0,zI (pn:Nat),zI qad]] (w.alloc (.cells #[.slice po pn pcap,zF gm pn pn] 205)) fun ed w'=>ed=.returned (zI z)/\R (.returned (zI z)) w')) :
  zC 60 #[zP g,zI (v:Nat),zI qad] w R:=by
 have ha:(0:Int)<=(v:Int):=by omega
 go_enter func60,ntmps60
 go_wp2_with (go_at_call 90;refine xR hP.out ?_;rintro ed w' ⟨rfl,hR⟩)
 exact hR
theorem qwc(hE:Evm w0 vv dv e M)(HP:qrx w0 g vv dv e M f)(v:Nat)(hv:v<e.vis.length)(qad:Int)(K:List Pc)(o:Wt)(w:World)(Hb:0<=qad)(hc:qad<=50)(h:Wst w0 g vv dv e M K o w)(hf:5001<=f+o.steps)(hK:K.length<=o.steps+1) :
  zC 60 #[zP g,zI (v:Nat),zI qad] w (OutC w0 g vv dv e K (e.run f v 0 (e.parts v).length qad K o) w):=by
 obtain⟨bv,cap,rfl,Ha,hx⟩:=hE.vis;obtain⟨po,pcap,gm,ha,k0,k1⟩:=hx v hv;obtain⟨sv,Hc,bp,bv',hq⟩:=id h.at';have hb:zW w (w.alloc (.cells #[.slice po (e.parts v).length pcap,zF gm (e.parts v).length (e.parts v).length] 205)):=zB _;refine q7i w g bv e.vis.length cap v po (e.parts v).length pcap gm qad (OutC w0 g (zF bv e.vis.length cap) dv e K (e.run f v 0 (e.parts v).length qad K o) w) (e.run f v 0 (e.parts v).length qad K o).2 (by omega) hq.wb.all.1 ((h.base.cell (p:=zO bv (v*2)) Ha).trans k0) ((h.base.cell (p:=zO bv (v*2+1)) Ha).trans k1) ((HP v 0 (e.parts v).length qad K o _ po pcap gm ha (yg _) Hb hc (h.below hb) hf hK).mono ?_);intro ed w' hO;exact⟨hO.1,hO.1▸hO.from (h.rn hb)⟩
theorem qw8(w:World)(g:Nat)(x:Int):zC 128 #[zP g,zI 0,zI x] w (zQ (zI 0) w):=by
 go_enter func128,ntmps128
 go_wp2
 go_ret
 exact⟨rfl,rfl⟩
theorem qw9(w:World)(g:Nat)(m x d:Int)(hm:¬m=0)(hx:d<x)(c1:w.cell? (zO g 1)=some (zI d)):zC 128 #[zP g,zI m,zI x] w (zQ (zI 4) w):=by
 go_enter func128,ntmps128
 go_wp2
 go_ret
 exact⟨rfl,rfl⟩
theorem q5c(w:World)(g:Nat)(m x d:Int)(hm:¬m=0)(hx:¬d<x)(c1:w.cell? (zO g 1)=some (zI d))(z:Int)(R:Ending->World->Prop)
  (hT:Hid (zC 60 #[zP g,zI m,zI x] w fun ed w'=>ed=.returned (zI z)/\R (.returned (zI z)) w')) :
  zC 128 #[zP g,zI m,zI x] w R:=by
 go_enter func128,ntmps128
 go_wp2_with (go_at_call 60;refine xR hT.out ?_;rintro ed w' ⟨rfl,hR⟩)
 exact hR
theorem q04(hE:Evm w0 vv dv e M)(HP:qrx w0 g vv dv e M f)(m:Int)(Ha:0<=m)(hm:m<(e.vis.length:Nat))(qad:Int)(K:List Pc)(o:Wt)(w:World)(hb:0<=qad)(h:Wst w0 g vv dv e M K o w)(hf:5001<=f+o.steps)(hK:K.length<=o.steps+1) :
  zC 128 #[zP g,zI m,zI (qad+1)] w (OutC w0 g vv dv e K (if m=0 then(o,0)else if e.depth<qad+1 then(o,4)else e.run f m.toNat 0 (e.parts m.toNat).length (qad+1) K o) w):=by
 obtain⟨sv,Hb,bp,bv',hq⟩:=id h.at';by_cases h0:m=0
 ·rw[if_pos h0,h0]
  refine cm (qw8 w g (qad+1)) ?_;exact⟨rfl,⟨K,h.at',fun _=>rfl⟩,Rn.refl _ _ _⟩
 ·rw[if_neg h0]
  by_cases h1:e.depth<qad+1
  ·rw[if_pos h1]
   refine cm (qw9 w g m (qad+1) e.depth h0 h1 hq.wb.all.2.1) ?_;exact⟨rfl,⟨K,h.at',fun e=>absurd (show(4:Int)=0 from e) (by decide)⟩,Rn.refl _ _ _⟩
  ·rw[if_neg h1]
   have ha:((m.toNat:Nat):Int)=m:=by omega
   have hd:=hE.depth;have:=qwc hE HP m.toNat (by omega) (qad+1) K o w (by omega) (by omega) h hf hK;rw[ha]at this;refine q5c w g m (qad+1) e.depth h0 h1 hq.wb.all.2.1 (e.run f m.toNat 0 (e.parts m.toNat).length (qad+1) K o).2 (OutC w0 g vv dv e K (e.run f m.toNat 0 (e.parts m.toNat).length (qad+1) K o) w) (this.mono ?_);intro ed w' hO;exact⟨hO.1,hO.1▸hO⟩
end
variable{w wr:World}
structure EnW(w wr:World):Prop where
 below:zW w wr
 tabs:PTabs wr
 ml:qa3 wr
theorem EnW.refl(h:PTabs w)(hm:qa3 w):EnW w w:=⟨xM _ _,h,hm⟩
theorem EnW.next{w':World}(h:EnW w wr)(hb:zW wr w'):EnW w w':=⟨h.below.trans (hb.mono h.below.size),h.tabs.kept hb,h.ml.below hb⟩
theorem EnW.alloc(h:EnW w wr)(o:Obj):EnW w (wr.alloc o):=h.next (zB o)
theorem EnW.drewN(h:EnW w wr)(n:Nat):EnW w (wr.drewN n):=h.next (qat (xM _ _) n)
theorem q53:qnt Ft.none=.agg #[zI 0,zI 0,zS,zI 0]:=rfl
end Go.Proofs.YtfkhljmiehdgmaaGreatDoor
