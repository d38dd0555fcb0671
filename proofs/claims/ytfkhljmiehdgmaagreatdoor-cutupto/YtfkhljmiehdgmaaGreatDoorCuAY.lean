/-
  Steps of the proof.
-/
import Derived.Test.YtfkhljmiehdgmaaGreatDoorCuAX
import Derived.Test.YtfkhljmiehdgmaaGreatDoorCuAR
import Derived.Test.YtfkhljmiehdgmaaGreatDoorCuAV
set_option maxRecDepth 100000
set_option maxHeartbeats 40000000
namespace Go.Proofs.YtfkhljmiehdgmaaGreatDoor
open Go.RowKit Go.Proofs.Tryz Pl
section
open Go.Maps
variable{l:List (En×Nat)}{n bn B:Nat}{w w' w0:World}{F:Fix}{S:List Src}{vv:Value}{s:Sr}{M:List Nat}
structure NumsOk(n:Nat)(l:List (En×Nat)):Prop where
 key:∀p∈l,SxFit p.1.2/\p.1.1<n
 one:ql6 l
theorem quy{i:Nat}{p:Value×Value}(h:(qnn l)[i]?=some p):∃q,l[i]?=some q/\p=(qge q.1,zI (q.2:Nat)):=by
 unfold qnn at h;rw[yz]at h;obtain⟨q,y,z⟩:=yy.1 h;exact⟨q,y,z.symm⟩
theorem qmo(h:NumsOk n l)(z:n<=7):KeysOk prog 180 (qnn l):=by
 refine⟨fun p D=>?_,fun i j p q I J y=>?_⟩
 ·obtain⟨i,I⟩:=xj D
  obtain⟨r,O,rfl⟩:=quy I;have:=h.key r (yl O);exact qtj this.1.ok this.1.far (by omega)
 ·obtain⟨a,O,rfl⟩:=quy I
  obtain⟨b,T,rfl⟩:=quy J;exact h.one i j a b O T (qj5 y)
theorem qxd{e:En}(h:qa9 l e=none):∀p∈qnn l,p.1≠qge e:=by
 intro p y;unfold qnn at y;obtain⟨q,z,rfl⟩:=xq.1 y;exact fun x=>qly h q z (qj5 x)
theorem qqp(h:qfj w bn (qnn l))(z:NumsOk n l)(D:n<=7)(e:En)(I:SxFit e.2)(J:e.1<=6) :
  (Instr.lookup 176 (.map (some bn)) (qge e) false).run prog w=.ok (zI ((qa9 l e).getD 0:Nat)) w:=by
 obtain⟨kl,y⟩:=qtj I.ok I.far J;cases O:qa9 l e with
 |none=>exact qix qem underlying176 (q3a w) h (qmo z D) y (qxd O) false
 |some x=>exact qh3 qem underlying176 h (qmo z D) y (xq.2 ⟨(e,x),qg3 O,rfl⟩) false
theorem q5g(h:qfj w bn (qnn l))(D:NumsOk n l)(I:n<=7)(e:En)(J:SxFit e.2)(O:e.1<=6)(v:Nat) :
  ∃w',(Instr.mapUpdate 176 (.map (some bn)) (qge e) (zI v)).run prog w=.ok () w'/\qfj w' bn (qnn (qbi l e v))/\w.grownBy w' (some bn)/\w'.heap.size=w.heap.size:=by
 obtain⟨kl,z⟩:=qtj J.ok J.far O;cases T:qa9 l e with
 |none=>
   obtain⟨w',U,V,X,Y⟩:=qiw (val:=zI v) qem underlying176 h (qmo D I) z (qxd T);refine⟨w',U,?_,X,Y⟩;rw[qfg T];unfold qnn at V |-;rw[yG];exact V
 |some y=>
   obtain⟨i,i1,i2⟩:=qif T v;obtain⟨w',U,V,X,Y⟩:=qk9 (val:=zI v) (v:=zI (y:Nat)) qem underlying176 h (qmo D I) z i (by unfold qnn;rw[yz,i1];rfl);refine⟨w',U,?_,X,Y⟩;rw[i2];unfold qnn at V |-;rw[List.map_set];exact V
theorem q5y:(prog.info? 205).map (fun i=>(i.zero,i.size,i.bytes))=some (some (.agg #[zN,zN]),2,48):=by kernel_rfl
theorem qzv:(Value.agg #[zN,zN]).cells.size=2:=rfl
structure Vis1(w wx:World)(B:Nat)(F:Fix)(S:List Src)(vv:Value)(M:List Nat)(s:Sr)(e:En)(n gV gM:Nat):Prop where
 sv:SvAt wx B F S vv M s
 ent:wx.heap[w.heap.size]?=zK (qao e) 180
 vis:wx.heap[gV]?=zK #[F.pv e.1,zF gM n n] 205
 mks:wx.heap[gM]?=zK ((qe2 (List.replicate n 0)).toArray) 3
 old:w.heap.size<=gV/\w.heap.size<=gM
 below:zW w wx
theorem qs4(n:Nat):madeCells #[Value.int .i64 0] n=(qe2 (List.replicate n 0)).toArray:=by
 apply Array.ext';rw[toList_madeCells_one];simp[qe2]
theorem SeAt.mapOther(h:SeAt w B F S vv s){b:Nat}{L:List (Value×Value)}(D:qfj w b L)(I:b≠F.be)(J:b≠F.bp)(O:w.grownBy w' (some b)):SeAt w' B F S vv s:=by
 have T:∀k,k<w.heap.size->k≠b->w'.heap[k]?=w.heap[k]?:=fun k T z=>O.block k T (fun e=>z (yk e));obtain⟨cs',fz',U⟩:=h.src.blk;refine⟨(T _ (zL h.blk) (qak h.blk D)).trans h.blk,h.src.kept (T _ (ya.1 U).1 (qak U D)) (fun i s' q V X=>?_),h.places.heap (T _ h.places.lt J.symm),h.ends.heap (T _ h.ends.lt I.symm),h.le,h.apart⟩;obtain⟨cur,y⟩:=qac (h.src.row i s' V) q X;exact T q (ya.1 y).1 (qak y D)
theorem SvAt.numsPut(h:SvAt w B F S vv M s){l:List (En×Nat)}(I:qfj w' F.bn (qnn l))(J:w.grownBy w' (some F.bn)):SvAt w' B F S vv M { s with nums:=l }/\Cuv B F w w':=by
 have O:∀k,k<w.heap.size->k≠F.bn->w'.heap[k]?=w.heap[k]?:=fun k O D=>J.block k O (fun e=>D (yk e));have y:=h.se.mapOther h.nums h.apart.1 h.apart.2.1 J;refine⟨⟨⟨y.blk,y.src,y.places,y.ends,y.le,y.apart⟩,I,?_,h.len,?_,h.one,h.apart⟩,⟨⟨J.os,J.tape,J.output,J.size,fun k O=>J.block k (by have:=h.nums.lt;have:=h.apart.2.2;omega) (fun x=>by have:=yk x;have:=h.apart.2.2;omega)⟩,fun k cs t fz z _ _ _=>O k (ya.1 z).1 (qak z h.nums)⟩⟩
 ·refine qab h.row fun k T=>?_
  obtain⟨cur,U⟩:=qac h.row k T;exact O k (ya.1 U).1 (qak U h.nums)
 ·intro i g v V T
  obtain⟨X,Y⟩:=h.marks i g v V T;exact⟨(O g (ya.1 X).1 (qak X h.nums)).trans X,Y⟩
theorem SvAt.visit{vv':Value}(h:SvAt w B F S vv M s)(J:zW w w0){i g n:Nat}(U:w.heap[g]?=some (Obj.cells (qe2 (List.replicate n 0)).toArray 3 (0,0)))(Z:B<=g)(Ha:g∉M)(O:w'.ownsRow B 205 2 vv' (s.vis.length+1) (qdw F M s.vis++qip F i g n))(I:w0.grownBy w' vv.ownBlock) :
  SvAt (w'.setCell (zO F.g 4) vv') B F S vv' (M++[g]) { s with vis:=s.vis++[(i,List.replicate n 0)] }/\Cuv B F w (w'.setCell (zO F.g 4) vv'):=by
 have y:∀(k:Nat) (cs:Array Value) (t:TypeId) (fz:Nat×Nat),w.heap[k]?=some (.cells cs t fz)->t≠205->w'.heap[k]?=w.heap[k]?:=fun k cs t fz hk ht=>by
  have X:=(ya.1 hk).1;refine(I.block k (yi X J.size) (fun e=>?_)).trans (J.block k X);obtain⟨cur,hc⟩:=qac h.row k e.symm;exact qae hk hc ht rfl
 have D:∀b L,qfj w b L->w'.heap[b]?=w.heap[b]?:=fun b L hm=>by
  refine(I.block b (yi hm.lt J.size) (fun e=>?_)).trans (J.block b hm.lt);obtain⟨cur,hc⟩:=qac h.row b e.symm;exact qak hc hm rfl
 have z:∀k,k≠F.g->(w'.setCell (zO F.g 4) vv').heap[k]?=w'.heap[k]?:=fun k hk=>xK _ _ _ _ hk;have Y:=(y _ _ _ _ h.se.blk qef.symm).trans h.se.blk;obtain⟨cs',fz',hc⟩:=h.se.src.blk;refine⟨⟨⟨?_,?_,?_,?_,h.se.le,h.se.apart⟩,?_,?_,?_,?_,?_,h.apart⟩,⟨?_,?_⟩⟩
 ·rw[xG _ _ _ _ _ _ Y]
  simp[qlm]
 ·refine h.se.src.kept ((z _ (qae hc h.se.blk qjc.symm)).trans (y _ _ _ _ hc qpt.symm)) fun i' s' q hs hv=>?_
  obtain⟨cur,T⟩:=qac (h.se.src.row i' s' hs) q hv;exact(z _ (qae T h.se.blk qk6.symm)).trans (y _ _ _ _ T qt9.symm)
 ·exact h.se.places.heap ((z _ (qak h.se.blk h.se.places).symm).trans (D _ _ h.se.places))
 ·exact h.se.ends.heap ((z _ (qak h.se.blk h.se.ends).symm).trans (D _ _ h.se.ends))
 ·exact h.nums.heap ((z _ (qak h.se.blk h.nums).symm).trans (D _ _ h.nums))
 ·show World.ownsRow _ _ _ _ _ (s.vis++[_]).length _
  rw[yJ,qn7 F g _ M s.vis h.len,show(List.replicate n (0:Int)).length=n by simp];refine qab O fun k hk=>z k ?_;obtain⟨cur,T⟩:=qac O k hk;exact qae T Y qef
 ·simp[h.len]
 ·intro j g' v hj hv
  rw[yI]at hj;have hv:(s.vis++[(i,List.replicate n 0)])[j]?=some v:=hv;rw[yI,<-h.len]at hv;split at hj
  ·rename_i V
   rw[if_pos V]at hv;obtain⟨h1,h2⟩:=h.marks j g' v hj hv;exact⟨((z g' (qae h1 h.se.blk qgp)).trans (y _ _ _ _ h1 qjg.symm)).trans h1,h2⟩
  ·rename_i V
   rw[if_neg V]at hv;have Hb:j - M.length=0:=by
    have:=(yb.1 hj).1;simp at this;omega
   rw[Hb]at hj hv;simp only[yS,Option.some.injEq]at hj hv;subst hj hv;exact⟨((z _ (qae U h.se.blk qgp)).trans (y _ _ _ _ U qjg.symm)).trans U,Z⟩
 ·rw[List.nodup_append]
  exact⟨h.one,by simp,fun a ha b hb e=>by simp at hb;subst hb e;exact Ha ha⟩
 ·have h1:=h.se.le.1
  have h2:=(zL h.se.blk);exact Below.trans (J.mono (by omega)) (Below.trans ⟨I.os,I.tape,I.output,I.size,fun k hk=>I.block k (by have:=J.size;omega) (fun e=>by have:=(h.row.lt k e.symm).1;omega)⟩ ((xL _ _).setCell (p:=zO F.g 4) h.se.le.1 _))
 ·intro k cs t fz hk h1 h2 _
  exact(z k h1).trans (y k cs t fz hk h2)
theorem SvAt.ahead(h:SvAt w B F S vv M s)(y:zW w w0)(D:w0.grownBy w' vv.ownBlock):w'.cell? (zO F.g 4)=some vv/\w'.frozen? (zO F.g 4)=false:=by
 have z:=(zL h.se.blk);have I:w'.heap[F.g]?=zK (qlm F S.length vv s.fault) 178:=by
  refine(D.block _ (yi z y.size) (fun e=>?_)).trans ((y.block _ z).trans h.se.blk);obtain⟨cur,J⟩:=qac h.row _ e.symm;exact qae h.se.blk J qef.symm rfl
 exact⟨qaa I 4 _ rfl,by simp[World.frozen?,I]⟩
end
variable{w wr w':World}{B G R E:Nat}{F:Fix}{S:List Src}{vv:Value}{M:List Nat}{s:Sr}{y z:Sx}{e:En}
def ThrC(S:List Src)(k:Nat):Prop:=∀(w:World) (B:Nat) (F:Fix) (vv:Value) (M:List Nat) (s:Sr) (e:En),SvAt w B F S vv M s->Pre S s e->258<=s.nums.length+k->TabB B w ->
    zC 75 #[zP F.g,qge e] w fun ed w'=>(∃r,ed=.returned r)/\(∃vv' ext,SvAt w' B F S vv' (M++ext) (qev S k s e))/\Cuv B F w w'
structure Nmi(w wr:World)(B:Nat)(F:Fix)(S:List Src)(vv:Value)(M:List Nat)(s:Sr)(G:Nat)(y:Sx)(R:Nat)(z:Sx)(E:Nat)(e:En):Prop where
 sv:SvAt wr B F S vv M s
 end':StIn wr G y
 res:StIn wr R z
 ne:G≠R
 ent:wr.heap[E]?=zK (qao e) 180
 old:w.heap.size<=R/\B<=w.heap.size
 cuv:Cuv B F w wr
 tabs:TabB B wr
theorem Nmi.below(h:Nmi w wr B F S vv M s G y R z E e)(D:zW wr w'):Nmi w w' B F S vv M s G y R z E e:=
 have I:B<=wr.heap.size:=yh h.old.2 h.cuv.below.size
 ⟨h.sv.below D,h.end'.below D,h.res.below D,h.ne,(D.block _ (ya.1 h.ent).1).trans h.ent,h.old,h.cuv.trans (Cuv.of_below D I),h.tabs.kept (D.mono I)⟩
theorem Nmi.alloc(h:Nmi w wr B F S vv M s G y R z E e)(o:Obj):Nmi w (wr.alloc o) B F S vv M s G y R z E e:=h.below (zB o)
theorem Nmi.drew(h:Nmi w wr B F S vv M s G y R z E e):Nmi w wr.drew B F S vv M s G y R z E e:=h.below (xL _ _).drew
theorem Nmi.turn{vv':Value}{M':List Nat}{s':Sr}(h:Nmi w wr B F S vv M s G y R z E e)(D:SvAt w' B F S vv' M' s')(I:Cuv B F wr w'):Nmi w w' B F S vv' M' s' G y R z E e:=by
 have k1:=I.keep G _ _ _ h.end' (qae h.end' h.sv.se.blk qb5) (by decide) (by decide);have k2:=I.keep R _ _ _ h.res (qae h.res h.sv.se.blk qb5) (by decide) (by decide);have k3:=I.keep E _ _ _ h.ent (qae h.ent h.sv.se.blk qb6) (by decide) (by decide);exact⟨D,k1.trans h.end',k2.trans h.res,h.ne,k3.trans h.ent,h.old,h.cuv.trans I,h.tabs.kept I.below⟩
theorem Nmi.set(h:Nmi w wr B F S vv M s G y R z E e)(x:Sx):Nmi w (qdf wr R (zJ (x.st.mode:Int)) (.string ⟨x.st.name.toArray⟩) (.string ⟨x.st.elem.toArray⟩) (zI x.st.kind) (zI (x.st.read:Int)) (.bool x.ma.ref) (.bool x.st.esc) (zI x.ma.hex) (zI x.ma.pct) (zI x.ma.far)) B F S vv M s G y R x E e:=by
 have D:=fun k (J:k≠R)=>qha (w:=wr) J (zJ (x.st.mode:Int)) (.string ⟨x.st.name.toArray⟩) (.string ⟨x.st.elem.toArray⟩) (zI x.st.kind) (zI (x.st.read:Int)) (.bool x.ma.ref) (.bool x.st.esc) (zI x.ma.hex) (zI x.ma.pct) (zI x.ma.far);have I:Below R wr (qdf wr R (zJ (x.st.mode:Int)) (.string ⟨x.st.name.toArray⟩) (.string ⟨x.st.elem.toArray⟩) (zI x.st.kind) (zI (x.st.read:Int)) (.bool x.ma.ref) (.bool x.st.esc) (zI x.ma.hex) (zI x.ma.pct) (zI x.ma.far)):=qfe (xL _ _) (yg _) _ _ _ _ _ _ _ _ _ _;have O:=h.res.set x;generalize qdf wr R _ _ _ _ _ _ _ _ _ _=w' at D I O |-;have T:=I.mono (yh h.old.2 h.old.1);refine⟨h.sv.far h.res D,(D _ h.ne).trans h.end',O,h.ne,(D _ (qae h.ent h.res qh2)).trans h.ent,h.old,⟨h.cuv.below.trans T,fun k cs t fz J U V X=>(D k (fun e=>?_)).trans (h.cuv.keep k cs t fz J U V X)⟩,h.tabs.kept T⟩;have:=(ya.1 J).1;have:=h.old.1;omega
theorem Nmi.post{ext:List Nat}(h:Nmi w wr B F S vv (M++ext) s G y R z E e){a:Act}{n:Int}(D:a.tmps.getD 6 undef=zI n)(I:a.tmps.getD 7 undef=zP R)(hd:a.defers=[]) :
  bodyPost prog f110 (fun ed w'=>ed=.returned (.tuple #[zI n,qar z])/\(∃vv' ext',SvAt w' B F S vv' (M++ext') s)/\Cuv B F w w') .ret a wr:=by
 refine bodyPost_ret ?_ hd (⟨rfl,⟨vv,ext,h.sv⟩,h.cuv⟩:_/\_);have J:=qbb (P:=prog) wr R 162 (qaf z) _ (qaa h.res) underlying162 rfl (by kernel_rfl);rw[yY]at D I;simp only[results,results110];simp[D,I,asAddr,J];rfl
theorem q2d(S:List Src)(D:SrcsOk S)(w:World)(B:Nat)(F:Fix)(vv:Value)(s:Sr)(n:zU)(x:Sx)(h:SeAt w B F S vv s)(I:EndsOk S.length s.ends)(J:SxFit x)(O:n.length<=2000)(T:B<=w.heap.size)(U:TabB B w)(V:qaj S n≠0)(X:qa9 s.ends (qaj S n,x)=none)(Y:s.ends.length=256) :
  zC 156 #[zP F.g,.string ⟨n.toArray⟩,qar x] w fun ed w'=>ed=.returned (qar Sx.none)/\SeAt w' B F S vv { s with fault:=qtd }/\Cue B F w w':=by
 have b1:∀o o',((w.alloc o).alloc o').cell? (zO F.g 1)=some (.map (some F.bp)):=fun o o'=>((h.alloc o).alloc o').cell 1 _ rfl;have b2:∀o o' o'',(((w.alloc o).alloc o').alloc o'').cell? (zO F.g 1)=some (.map (some F.bp)):=fun o o' o''=>(((h.alloc o).alloc o').alloc o'').cell 1 _ rfl;have l1:=fun o o'=>((h.alloc o).alloc o').drew.place D n (by omega);have l2:=fun o o' o''=>(((h.alloc o).alloc o').alloc o'').drew.place D n (by omega);have y:qaj S n<=6:=by have:=qfh S n V;have:=D.few;omega
 have Z:=zH (qkc (x:=x) h T U (qaj S n));generalize hi:qaj S n=i at *;have i0:((i:Int)==0)=false:=by rw[yf];omega
 generalize (⟨n.toArray⟩:zT)=N at l1 l2 |-;rw[qdx]at Z;unfold qao qaf bs at Z;unfold qar;rw[qdx];unfold qaf bs;clear h;have HY:=zH X;clear X;go_enter func156,ntmps156
 go_wp2
 go_region
 go_wp2
 clear b1 b2 l1 l2;generalize World.drew _=w3 at Z |-;have l3:=Z.out.se.drew.look D I (i,x) J y true;have l4:=fun o=>(Z.out.se.alloc o).drew.look D I (i,x) J y true;rw[HY.out]at l3 l4;have b1:w3.cell? (zO F.g 2)=some (.map (some F.be)):=Z.out.se.cell 2 _ rfl;have b2:∀o,(w3.alloc o).cell? (zO F.g 2)=some (.map (some F.be)):=fun o=>(Z.out.se.alloc o).cell 2 _ rfl;have he:=qct Z.out.ent;have hg:=fun o=>qct (Z.out.alloc o).ent;unfold qao bs at he hg;have hr:=fun o=>(Z.out.alloc o).res;have m0:=al he;have n0:=fun o=>al (hg o);clear he hg hr;simp only[Option.getD_none,Option.isSome_none,if_true,qbj]at l3 l4;unfold qar qao at l3 l4;simp only[qdx]at l3 l4;unfold bs at l3 l4;go_region
 have H4:=(show Hid _ from(Z.out.alloc (.cells (qaf Sx.none) 162)).drew);rw[qdx]at H4;clear l3 l4 b1 b2 m0 n0;generalize World.drew _=w4 at H4 |-;have hl:=H4.out.se.len;rw[Y]at hl;have b1:w4.cell? (zO F.g 2)=some (.map (some F.be)):=H4.out.se.cell 2 _ rfl;have y5:w4.cell? (zO F.g 5)=some _:=H4.out.se.cell 5 _ rfl;have y6:w4.cell? (zO F.g 6)=some _:=H4.out.se.cell 6 _ rfl;have y7:w4.cell? (zO F.g 7)=some _:=H4.out.se.cell 7 _ rfl;have y8:w4.cell? (zO F.g 8)=some _:=H4.out.se.cell 8 _ rfl;have z5:=H4.out.se.thaw;have hr:=H4.out.res;have z:F.g≠w.heap.size+1:=qae H4.out.se.blk hr qb5.symm;have r0:=hr.at'.all;have f0:=hr.slot.thaw;clear hr;have HF:Hid (Bhi w (qdf (qox w4 F.g (zI 3) (zI 0) (zS) (zI 0)) (w.heap.size+1) (zJ 0) (zS) (zS) (zI 0) (zI 0) (.bool false) (.bool false) (zI 0) (zI 0) (zI 0)) B F S vv { s with fault:=qtd } (w.heap.size+1+1) (w.heap.size+1) (i,x) Sx.none):=by
  have Y:=SeAt.fault H4.out.se qtd;exact(H4.out.turn Y.1 Y.2).set Sx.none
 unfold qdf qox at HF;go_wp2
 refine HF.out.post ?_ ?_
 ·rfl
 ·rfl
section
open Go.Maps
theorem q63(S:List Src)(hS:SrcsOk S)(w:World)(B:Nat)(F:Fix)(vv:Value)(M:List Nat)(s:Sr)(e:En)(h:SvAt w B F S vv M s)(hN:NumsOk S.length s.nums)(hi:e.1<S.length)(he:SxFit e.2)(hl:s.vis.length<=1000)(hB:B<=w.heap.size) :
  zC 105 #[zP F.g,qge e] w fun ed w'=>∃g vv',ed=.returned (.tuple #[F.pv e.1,zF g (qah S e.1).length (qah S e.1).length])/\SvAt w' B F S vv' (M++[g]) (Pl.begun S s e)/\Cuv B F w w'/\w.heap.size<=g:=by
 obtain⟨src,y⟩:∃src,S[e.1]?=some src:=⟨S[e.1],yc hi⟩;have hP:qah S e.1=src.parts:=by unfold qah;rw[y]
 have Ho:=(hS.parts e.1 src y).1;obtain⟨ao,cap,hv⟩:=qaq (h.se.src.row e.1 src y);have b0:∀o,(w.alloc o).cell? (zO F.g 0)=some (zF F.bS S.length S.length):=fun o=>(h.se.alloc o).cell 0 _ rfl;have b1:∀o,(w.alloc o).cell? (zO F.bS (e.1*2+1))=some (.slice ao src.parts.length cap):=fun o=>((h.se.alloc o).src.slice e.1 src y).trans (by rw[hv]);have b2:∀o o',((w.alloc o).alloc o').cell? (zO F.g 0)=some (zF F.bS S.length S.length):=fun o o'=>((h.se.alloc o).alloc o').cell 0 _ rfl;have b3:∀o o',((w.alloc o).alloc o').cell? (zO F.bS (e.1*2+1))=some (.slice ao src.parts.length cap):=fun o o'=>(((h.se.alloc o).alloc o').src.slice e.1 src y).trans (by rw[hv]);have b4:∀o o' o'',(((w.alloc o).alloc o').alloc o'').cell? (zO F.g 0)=some (zF F.bS S.length S.length):=fun o o' o''=>(((h.se.alloc o).alloc o').alloc o'').cell 0 _ rfl;have b5:∀o o' o'',(((w.alloc o).alloc o').alloc o'').cell? (zO F.bS (e.1*2+1))=some (.slice ao src.parts.length cap):=fun o o' o''=>((((h.se.alloc o).alloc o').alloc o'').src.slice e.1 src y).trans (by rw[hv]);have c1:(e.1:Int)<(S.length:Int):=by omega
 have He:=run_make_row' (P:=prog) 36 3 (zI 0) 8 underlying36 q3d rfl .i64 .i64 src.parts.length (by omega) (by omega);rw[hP,qbj];unfold qao bs;have HA:Hid (Vis1 w (((w.alloc (.cells #[zI e.1,zJ (e.2.st.mode:Int),.string ⟨e.2.st.name.toArray⟩,.string ⟨e.2.st.elem.toArray⟩,zI e.2.st.kind,zI (e.2.st.read:Int),.bool e.2.ma.ref,.bool e.2.st.esc,zI e.2.ma.hex,zI e.2.ma.pct,zI e.2.ma.far] 180)).alloc (.cells (madeCells #[zI 0] src.parts.length) 3)).alloc (.cells #[.slice ao src.parts.length cap,zF (w.heap.size+1) src.parts.length src.parts.length] 205)).drew B F S vv M s e src.parts.length (w.heap.size+1+1) (w.heap.size+1)):=by
  have hb:=((((xL w.heap.size w).alloc (yg _) (.cells (qao e) 180)).alloc (by simp) (.cells (madeCells #[zI 0] src.parts.length) 3)).alloc (by simp;omega) (.cells #[.slice ao src.parts.length cap,zF (w.heap.size+1) src.parts.length src.parts.length] 205)).drew;refine⟨h.below hb,(xI _ _ (by simp;omega)).trans ((xI _ _ (by simp)).trans (xF w _)),?_,?_,by omega,hb⟩
  ·rw[<-hv];exact qap (World.alloc (w.alloc _) _) _ _ (by simp)
  ·rw[<-qs4];exact(xI _ _ (by simp)).trans (qap (w.alloc _) _ _ (by simp))
 have ha:Hid (Vis1 w (((w.alloc (.cells #[zI e.1,zJ (e.2.st.mode:Int),.string ⟨e.2.st.name.toArray⟩,.string ⟨e.2.st.elem.toArray⟩,zI e.2.st.kind,zI (e.2.st.read:Int),.bool e.2.ma.ref,.bool e.2.st.esc,zI e.2.ma.hex,zI e.2.ma.pct,zI e.2.ma.far] 180)).alloc (.cells #[.slice ao src.parts.length cap,zF (w.heap.size+1+1) src.parts.length src.parts.length] 205)).alloc (.cells (madeCells #[zI 0] src.parts.length) 3)).drew B F S vv M s e src.parts.length (w.heap.size+1) (w.heap.size+1+1)):=by
  have hb:=((((xL w.heap.size w).alloc (yg _) (.cells (qao e) 180)).alloc (by simp) (.cells #[.slice ao src.parts.length cap,zF (w.heap.size+1+1) src.parts.length src.parts.length] 205)).alloc (by simp;omega) (.cells (madeCells #[zI 0] src.parts.length) 3)).drew;refine⟨h.below hb,(xI _ _ (by simp;omega)).trans ((xI _ _ (by simp)).trans (xF w _)),?_,?_,by omega,hb⟩
  ·rw[<-hv];exact(xI _ _ (by simp)).trans (qap (w.alloc _) _ _ (by simp))
  ·rw[<-qs4];exact qap (World.alloc (w.alloc _) _) _ _ (by simp)
 obtain⟨av,cv,V⟩:=qaq h.row;have J:∀g∈M,g<w.heap.size:=fun g hg=>by
  obtain⟨k,hk⟩:=xj hg;have hf:k<s.vis.length:=by rw[<-h.len];exact(yb.1 hk).1
  exact(ya.1 (h.marks k g _ hk (yc hf)).1).1
 have HM:=zH J;have O:=zH (fun k hk=>(h.row.lt k hk).2);have Ha:=zH hv;have Y:=zH y;obtain⟨i0,Hf,Hg,Hi,hj⟩:=info_parts q5y;have hp:=Cuv.refl B F w;clear h J;go_enter func105,ntmps105
 go_wp2
 go_cut [6] (fun s6 wx=>∃gV gM,s6=zP gV/\Hid (Vis1 w wx B F S vv M s e src.parts.length gV gM))
 case first=>
  go_region
  all_goals
   go_wp2
   go_meet
   case rel=>first|exact⟨_,_,rfl,HA.out⟩|exact⟨_,_,rfl,ha.out⟩
 case rest=>
  obtain⟨gV,gM,rfl,H1⟩:=hcut;clear HA ha b0 b1 b2 b3 b4 b5 He c1;have Hb:gM∉M:=fun hm=>by have:=HM.out gM hm;have:=H1.out.old.2;omega
  have Hj:=zH Hb;obtain⟨w5,D,Hc,X,Hk⟩:=q5g H1.out.sv.drew.nums hN hS.few.2 e he (by have:=hS.few.2;omega) s.vis.length;have h5:=H1.out.sv.drew.numsPut Hc X;have Hl:B<=w5.heap.size:=by
   have h1:=H1.out.below.size;have h2:wc.drew.heap.size=wc.heap.size:=rfl;omega
  clear Hk;simp only[qbj]at D;unfold qao bs at D;have b3:wc.cell? (zO F.g 3)=some (.map (some F.bn)):=H1.out.sv.se.cell 3 _ rfl;have b4:wc.cell? (zO F.g 4)=some (.slice av s.vis.length cv):=(H1.out.sv.se.cell 4 _ rfl).trans (by rw[V];rfl);have hc:=qct H1.out.ent;unfold qao bs at hc;have m0:=al hc;have z:Hid (w5.heap[gV]?=zK #[F.pv e.1,zF gM src.parts.length src.parts.length] 205):=(X.block gV (ya.1 H1.out.vis).1 (fun x=>qak H1.out.vis H1.out.sv.nums (yk x))).trans H1.out.vis;have Hm:Hid (w5.heap[gM]?=zK ((qe2 (List.replicate src.parts.length 0)).toArray) 3):=(X.block gM (ya.1 H1.out.mks).1 (fun x=>qak H1.out.mks H1.out.sv.nums (yk x))).trans H1.out.mks;clear hc Hb Hc X;have H5:=zH h5.1;have hn:=zH h5.2;clear h5;go_wp2
  go_region
  go_wp2
  clear b3 b4 m0 D;have b4:∀o,(w5.alloc o).cell? (zO F.g 4)=some (.slice av s.vis.length cv):=fun o=>((H5.out.se.alloc o).cell 4 _ rfl).trans (by rw[V];rfl);have b5:w5.cell? (zO F.g 4)=some (.slice av s.vis.length cv):=(H5.out.se.cell 4 _ rfl).trans (by rw[V];rfl);have v0:w5.cell? (zO gV 0)=some (F.pv e.1):=qaa z.out 0 _ rfl;have v1:w5.cell? (zO gV 1)=some (zF gM src.parts.length src.parts.length):=qaa z.out 1 _ rfl;have v2:∀o,(w5.alloc o).cell? (zO gV 0)=some (F.pv e.1):=fun o=>qaa ((xI w5 o (ya.1 z.out).1).trans z.out) 0 _ rfl;have v3:∀o,(w5.alloc o).cell? (zO gV 1)=some (zF gM src.parts.length src.parts.length):=fun o=>qaa ((xI w5 o (ya.1 z.out).1).trans z.out) 1 _ rfl;have T:Hid (qip F e.1 gM src.parts.length=[.slice ao src.parts.length cap,zF gM src.parts.length src.parts.length]):=by show _=_;unfold qip;rw[Ha.out]
  rw[V]at H5 O;go_cut [] (fun wx=>∃v',Hid (SvAt wx B F S v' (M++[gM]) (Pl.begun S s e)/\Cuv B F w5 wx/\wx.heap[gV]?=w5.heap[gV]?))
  case first=>
   go_region_law (refine qa6 rfl (.tmp 42) (.tmp 44) 75 rfl B 205 i0 (.agg #[zN,zN]) 2 48 underlying75 Hf Hg Hi hj qzv (by decide) (.slice av s.vis.length cv) s.vis.length _ (by simp[Act.eval]) (World.ownsRow.alloc H5.out.row _) (zO _ 0) 1 1 [.slice ao src.parts.length cap,zF gM src.parts.length src.parts.length] (by simp[Act.eval]) rfl (qcn _ _ _) (by simp[Value.oneCell']) (by unfold maxLen;omega) (by omega) (by simp;omega) ?_;intro v' w6 I Z Hn;obtain⟨g',cap',rfl,_,_⟩:=qai I (by omega);obtain⟨q4,r4⟩:=SvAt.ahead H5.out (zB _).drew Z)
   all_goals
    go_wp2
    go_meet
    case rel=>
     rw[<-T.out]at I;have U:=SvAt.visit H5.out (zB _).drew Hm.out (yh hB H1.out.old.2) Hj.out I Z;have ho:gV<w5.heap.size:=(ya.1 z.out).1;have e9:Pl.begun S s e={ s with nums:=qbi s.nums e s.vis.length,vis:=s.vis++[(e.1,List.replicate src.parts.length 0)] }:=by
      unfold Pl.begun;rw[show qah S e.1=src.parts by unfold qah;rw[Y.out]]
     refine⟨zF g' (s.vis.length+1) cap',?_,U.2,?_⟩
     ·rw[e9]
      exact U.1
     ·refine(xK _ _ _ _ (qae z.out H5.out.se.blk qef)).trans ((Z.block gV (by simp;omega) (fun q=>?_)).trans (xI w5 _ ho))
      have:=O.out gV q.symm;have:=H1.out.old.1;omega
  case rest=>
   obtain⟨v',H9⟩:=hcut;have v4:=H9.out.2.2.trans z.out;have v0:=qaa v4 0 _ rfl;have v1:=qaa v4 1 _ rfl;clear v4;go_wp2
   go_quiet (fail)
   go_wp2
   go_ret2
   refine⟨gM,v',by rw[Ha.out];rfl,H9.out.1.below (qat (xL _ _) _),?_,H1.out.old.2⟩;exact((Cuv.of_below H1.out.below hB).trans ((Cuv.of_below (xL _ _).drew (yh hB H1.out.below.size)).trans hn.out)).trans (H9.out.2.1.trans (Cuv.of_below (qat (xL _ _) _) (yh Hl H9.out.2.1.below.size)))
end
def qfv(n:Int)(v:Vw):Value:=.agg #[zI n,zI v.mode,zI v.elem,zI v.attr,zI v.ends,zI v.esc,zI v.pct,zI v.link,.string ⟨v.name.toArray⟩,.bool v.ref]
def qcj(n:Int)(v:Vw):Array Value:=#[zI n,zI v.mode,zI v.elem,zI v.attr,zI v.ends,zI v.esc,zI v.pct,zI v.link,.string ⟨v.name.toArray⟩,.bool v.ref]
theorem qgz(w:World)(o:Obj)(a:Addr)(h:a.block<w.heap.size):(w.alloc o).cell? a=w.cell? a:=by
 unfold World.cell?;rw[xI w o h]
structure VisAt(w:World)(B:Nat)(L:List (Int×Vw)):Prop where
 cell:∀i x,L[i]?=some x->∀j v,(qcj x.1 x.2).toList[j]?=some v->w.cell? (zO B (i*10+j))=some v
 lt:B<w.heap.size
theorem qpo(B c:Nat)(L:List (Int×Vw))(n:Int)(v:Vw)(w:World)(J:L.length<=1000000000000)(h:VisAt w B L) :
  zC 57 #[zF B L.length c,qfv n v] w fun e w'=>(∃b:Bool,e=.returned (.bool b)/\(b=true↔(n,v)∈L))/\zW w w':=by
 have O:Hid (∀W0,w.alloc (.cells (qcj n v) 143)=W0->VisAt W0 B L/\(∀(j:Nat) (u:Value),(qcj n v).toList[j]?=some u->W0.cell? (zO w.heap.size j)=some u)/\zW w W0):=by
  rintro W0 rfl;exact⟨⟨fun i x T j u U=>(qgz _ _ _ h.lt).trans (h.cell i x T j u U),yi h.lt (by simp)⟩,fun j u U=>qaa (xF w _) j u U,zB _⟩
 clear h;unfold qfv;unfold qcj at O;go_enter func57,ntmps57
 go_wp2
 generalize V:w.alloc _=W0;obtain⟨Y,Z,hB⟩:=O.out W0 V;have HA:=zH Y;have HB:=zH hB;have r0:=al Z;clear Y hB Z O V;go_loopw [5] (fun i wr=>∃k:Nat,k<=L.length/\i=zI k/\Hid ((n,v)∉L.take k)/\∃m,wr=W0.drewN m) (fun i _=>L.length - (intOf i).toNat)
 case atStart=>exact⟨0,yH _,rfl,by show _∉_;simp,0,rfl⟩
 case round=>
  obtain⟨k,hk,rfl,HN,m,rfl⟩:=hrel;by_cases D:k<L.length
  ·have T:L[k]?=some L[k]:=yc D
   have hc:=HA.out.cell k _ T;unfold qcj at hc;have q0:=hc 0 _ rfl;have q1:=hc 1 _ rfl;have q2:=hc 2 _ rfl;have q3:=hc 3 _ rfl;have q4:=hc 4 _ rfl;have q5:=hc 5 _ rfl;have q6:=hc 6 _ rfl;have q7:=hc 7 _ rfl;have q8:=hc 8 _ rfl;have q9:=hc 9 _ rfl;clear hc;simp only[Nat.add_zero]at q0;have HX:=(show Hid (L[k]?=some L[k])from T);clear T;generalize L[k]=X at q0 q1 q2 q3 q4 q5 q6 q7 q8 q9 HX;have y:Hid (X≠(n,v)->(n,v)∉L.take (k+1)):=fun T q=>by
    rw[List.take_add_one,HX.out]at q;rcases yn.1 q with q|q
    ·exact HN.out q
    ·exact T (yv.1 (show(n,v)∈[X]from q)).symm
   by_cases e0:X.1=n
   case' neg=>have HD:=zH (y.out fun q=>e0 (by rw[q]))
   rotate_left
   by_cases e1:X.2.mode=v.mode
   case' neg=>have HD:=zH (y.out fun q=>e1 (by rw[q]))
   rotate_left
   by_cases e2:X.2.elem=v.elem
   case' neg=>have HD:=zH (y.out fun q=>e2 (by rw[q]))
   rotate_left
   by_cases e3:X.2.attr=v.attr
   case' neg=>have HD:=zH (y.out fun q=>e3 (by rw[q]))
   rotate_left
   by_cases e4:X.2.ends=v.ends
   case' neg=>have HD:=zH (y.out fun q=>e4 (by rw[q]))
   rotate_left
   by_cases e5:X.2.esc=v.esc
   case' neg=>have HD:=zH (y.out fun q=>e5 (by rw[q]))
   rotate_left
   by_cases e6:X.2.pct=v.pct
   case' neg=>have HD:=zH (y.out fun q=>e6 (by rw[q]))
   rotate_left
   by_cases e7:X.2.link=v.link
   case' neg=>have HD:=zH (y.out fun q=>e7 (by rw[q]))
   rotate_left
   by_cases e8:X.2.name=v.name
   case' neg=>have HD:=zH (y.out fun q=>e8 (by rw[q]))
   rotate_left
   by_cases e9:X.2.ref=v.ref
   case' neg=>have HD:=zH (y.out fun q=>e9 (by rw[q]))
   rotate_left
   ·have HM:Hid ((n,v)∈L):=by
     obtain⟨xn,xm,xe,xa,xd,xc,xp,xl,xs,xr⟩:=X;obtain⟨vm,ve,va,vd,vc,vp,vl,vn,vr⟩:=v;simp only at e0 e1 e2 e3 e4 e5 e6 e7 e8 e9;subst e0 e1 e2 e3 e4 e5 e6 e7 e8 e9;exact yl HX.out
    clear HN HX HA y;go_wp2
    go_region
    all_goals
     go_wp2
     go_ret
     exact⟨⟨true,rfl,⟨fun _=>HM.out,fun _=>rfl⟩⟩,qat HB.out _⟩
   all_goals
    clear HN HX HA y;go_wp2
    go_region
    all_goals
     go_wp2
     go_roundw
     case rel=>exact⟨k+1,by omega,by go_num,HD,m+1,by simp[World.drewN]⟩
     case measure=>simp[intOf];omega
  ·have I:k=L.length:=by omega
   subst I;have z:=HN.out;rw[List.take_length]at z;go_wp2
   go_ret
   exact⟨⟨false,rfl,⟨fun q=>(by cases q),fun q=>absurd q z⟩⟩,qat HB.out _⟩
theorem qzu(n:Int)(v:Vw)(w:World) :
  zC 57 #[zN,qfv n v] w (zR (.bool false) w):=by
 have y:Hid (zW w (w.alloc (.cells (qcj n v) 143))):=zB _;unfold qfv;unfold qcj at y;go_enter func57,ntmps57
 go_wp2
 generalize w.alloc _=W0 at y |-;go_loopw [5] (fun i wr=>i=zI 0/\wr=W0) (fun _ _=>0)
 case atStart=>exact⟨rfl,rfl⟩
 case round=>
  obtain⟨rfl,rfl⟩:=hrel;go_wp2
  go_ret
  exact⟨rfl,y.out⟩
structure PartsAt(w:World)(g B:Nat)(N:List zT):Prop where
 head:∃c:Nat,w.cell? (zO g 1)=some (zF B N.length c)
 name:∀i x,N[i]?=some x->w.cell? (zO B (i*2))=some (.string x)
def qv8(x:zT)(N:List zT)(r:Int):Prop:=(∃k:Nat,r=k/\N[k]?=some x/\∀j:Nat,j<k->¬N[j]?=some x)\/(r=-1/\∀j:Nat,¬N[j]?=some x)
theorem zbz(g B:Nat)(N:List zT)(x:zT)(w:World)(I:N.length<=100000)(h:PartsAt w g B N) :
  zC 56 #[zP g,.string x] w fun e w'=>(∃r:Int,e=.returned (zI r)/\qv8 x N r)/\w'=w:=by
 obtain⟨c,hd⟩:=h.head;have J:=(show Hid (PartsAt w g B N)from h);clear h;go_enter func56,ntmps56
 go_wp2
 go_loopw [5] (fun i wr=>∃k:Nat,k<=N.length/\i=zI k/\Hid (∀j:Nat,j<k->¬N[j]?=some x)/\wr=w) (fun i _=>N.length - (intOf i).toNat)
 case atStart=>exact⟨0,yH _,rfl,fun j O=>absurd O (yZ _),rfl⟩
 case round=>
  obtain⟨k,T,rfl,U,rfl⟩:=hrel;by_cases y:k<N.length
  ·have V:N[k]?=some N[k]:=yc y
   have q0:=J.out.name k _ V;have Y:=(show Hid (N[k]?=some N[k])from V);clear V J;generalize N[k]=X at q0 Y;by_cases e0:X=x
   ·have Z:Hid (qv8 x N (k:Int)):=.inl ⟨k,rfl,by rw[Y.out,e0],U.out⟩
    clear Y U;subst e0;go_wp2
    go_ret
    exact⟨⟨_,rfl,Z.out⟩,rfl⟩
   ·have HD:Hid (∀j:Nat,j<k+1->¬N[j]?=some x):=by
     intro j O q;by_cases z:j=k
     ·subst z;rw[Y.out]at q;exact e0 (yk q)
     ·exact U.out j (by omega) q
    have c0:(X.toList==x.toList)=false:=by
     rw[yf,ByteArray.toList_eq,ByteArray.toList_eq];exact fun q=>e0 (xi (Array.toList_inj.1 q))
    clear Y U e0;go_wp2
    go_roundw
    case rel=>exact⟨k+1,by omega,by go_num,HD,trivial⟩
    case measure=>simp[intOf];omega
  ·have D:k=N.length:=by omega
   have Z:Hid (qv8 x N (-1)):=.inr ⟨rfl,fun j q=>by
    have O:j<N.length:=(yb.1 q).1;exact U.out j (by omega) q⟩
   subst D;clear U J;go_wp2
   go_ret
   exact⟨⟨_,rfl,Z.out⟩,rfl⟩
theorem qt2.kept{v:Value}{w w':World}{l:List (zU×Int)}(h:qt2 v w l)(y:zW w w'):qt2 v w' l:=by
 rcases h with h|⟨g,z,D⟩
 ·exact .inl h
 ·refine .inr ⟨g,z,fun k r I=>?_⟩
  obtain⟨a,b⟩:=D k r I;have J:g<w.heap.size:=by
   rcases Nat.lt_or_ge g w.heap.size with O|O
   ·exact O
   ·simp[World.cell?,Array.getElem?_eq_none O]at a
  exact⟨(y.cell (p:=zO g (k*2)) J).trans a,(y.cell (p:=zO g (k*2+1)) J).trans b⟩
theorem zbd{m k:Nat}{b:UInt8}{r:zU×Int}(y:(qfn m)[k]?=some r)(z:((qfn m).take k).find? (qla b)=none)(h:qla b r=true):tgt m b=r.2:=by
 unfold tgt;rw[qo9 _ k r y z h]
theorem zbc{m k:Nat}{b:UInt8}(y:(qfn m).length<=k)(z:((qfn m).take k).find? (qla b)=none):tgt m b=m:=by
 rw[yp y]at z;unfold tgt;rw[z]
theorem q4x:∀m,m<=33->(qfn m).length<=5/\∀r∈qfn m,r.1.length<=60:=by decide +kernel
theorem q4d(m:Nat)(b:UInt8)(w:World)(Z:m<=33) :
  zC 170 #[zI m,zJ b.toNat] w (zR (zI (tgt m b)) w):=by
 have y:=q4x m Z;have HT:=zH (fun(k:Nat) (r:zU×Int)=>@zbd m k b r);have z:=zH (fun(k:Nat)=>@zbc m k b);generalize tgt m b=T at HT z |-;go_enter func170,ntmps170
 go_wp2_with fail
 by_cases D:20<=m
 case' pos=>
  have hi:(20:Int)<=(m:Int):=by omega
  have J:qfn m=qmv m:=by unfold qfn;rw[if_pos D]
  refine(qok m Z _).mono ?_;rintro e w1 ⟨v0,rfl,_,O⟩;go_wp2_with fail
  refine(qvg m D Z _).mono ?_;rintro e w2 ⟨v,rfl,hv,V⟩;have hw:=O.trans (V.mono O.size);clear O V hi
 case' neg=>
  have hi:decide ((20:Int)<=(m:Int))=false:=by rw[yO];omega
  have J:qfn m=qkq m:=by unfold qfn;rw[if_neg D]
  refine(qok m Z _).mono ?_;rintro e w1 ⟨v,rfl,hv,hw⟩
 all_goals
  rw[<-J]at hv;clear J D;generalize qfn m=L at hv y HT z;have hL:=y.1;have HL:=zH y.2;clear y;rcases hv with⟨rfl,rfl⟩|⟨g,rfl,hc⟩
  ·have HF:Hid (T=m):=z.out 0 (yg _) rfl
   go_wp2_with fail
   go_loop [6] (fun i=>i=zI 0) (fun _=>0)
   case atStart=>rfl
   case round=>
    subst hrel;go_wp2
    go_ret
    exact⟨qal (by rw[HF.out]),hw⟩
  ·have HC:=zH hc
   clear hc;go_wp2_with fail
   go_loop [6] (fun i=>∃k:Nat,k<=L.length/\i=zI k/\(L.take k).find? (qla b)=none) (fun i=>L.length - (intOf i).toNat)
   case atStart=>exact⟨0,yH _,rfl,rfl⟩
   case round=>
    obtain⟨k,hk,rfl,hn⟩:=hrel;have HN:=zH hn;clear hn;by_cases X:k<L.length
    ·have U:(k:Int)<(L.length:Int):=by omega
     obtain⟨r,hr⟩:∃r,L[k]?=some r:=⟨_,yc X⟩;obtain⟨q0,q1⟩:=HC.out k r hr;have Y:=HL.out r (yl hr);have HR:=zH hr;clear hr;by_cases he:r.1=[]
     ·have I:(r.1==[])=true:=by rw[he];rfl
      have HV:Hid (T=r.2):=HT.out k r HR.out HN.out (by unfold qla;rw[I];rfl);clear I;rw[he]at q0;go_wp2_with fail
      go_ret
      exact⟨qal (by rw[HV.out]),hw⟩
     ·have I:(r.1==[])=false:=yf.2 he
      by_cases ha:among b r.1=true
      ·have HV:Hid (T=r.2):=HT.out k r HR.out HN.out (by unfold qla;rw[ha,Bool.or_true])
       clear he;go_wp2_with (go_at_call 80;refine cm (qed b _ r.1 _ rfl (by omega)) ?_)
       go_ret
       exact⟨qal (by rw[HV.out]),hw⟩
      ·have ha:=ye.2 ha
       have HX:Hid (qla b r=false):=by show _=_;unfold qla;rw[I,ha];rfl
       clear he;go_wp2_with (go_at_call 80;refine cm (qed b _ r.1 _ rfl (by omega)) ?_)
       go_round
       case rel=>exact⟨k+1,by omega,by go_num,qdb _ k r HR.out HN.out HX.out⟩
       case measure=>simp[intOf];omega
    ·have HF:Hid (T=m):=z.out k (by omega) HN.out
     have U:decide ((k:Int)<(L.length:Int))=false:=by rw[yO];omega
     go_wp2
     go_ret
     exact⟨qal (by rw[HF.out]),hw⟩
theorem qrt{m:Nat}{b:UInt8}(y:m<=33)(h:tgt m b=-2):m=2\/m=24\/m=31:=by
 have key:∀k:Fin 34,(k.val=2\/k.val=24\/k.val=31)\/∀r∈qfn k.val,¬r.2=-2:=by decide
 rcases key ⟨m,by omega⟩with q|q
 ·exact q
 ·exfalso
  unfold tgt at h;split at h
  ·next r z=>exact q r (List.mem_of_find?_eq_some z) h
  ·omega
theorem q7s(p:Sp)(m:Nat)(b:UInt8)(w:World)(J:p.mode=m)(hm:m<=33)(ht:p.tag.length<=1000)(ha:p.attr.length<=1000)(hc:p.run.length<=2000000000000000000)
  (hR:tgt m b=-2->∀w,zC 123 #[qaz ⟨qa8 m,p.tag,p.attr,p.inside,[],p.far⟩,zJ b.toNat] w fun e w'=>e=.returned (qaz ((Sp.mk (qa8 m) p.tag p.attr p.inside [] p.far).step1 (qa8 m) b))/\zW w w') :
  zC 123 #[qaz p,zJ b.toNat] w fun e w'=>e=.returned (qaz (p.step m b))/\zW w w':=by
 have U:=fun w=>q4d m b w hm;have hN:=fun w=>q0e p m b (tgt m b) w J ht ha;have Ha:(p.named m b (tgt m b)).run=[]/\(p.named m b (tgt m b)).far=0/\(p.named m b (tgt m b)).mode=0:=by
  unfold Sp.named
  repeat' split
  all_goals exact⟨rfl,rfl,rfl⟩
 have hV:p.step m b=if tgt m b=-2 then(Sp.mk (qa8 m) p.tag p.attr p.inside [] p.far).step1 (qa8 m) b else if tgt m b=-1 then(if qav p.tag=1 then Sp.start else⟨qav p.tag,p.tag,[],[],[],0⟩)
   else⟨tgt m b,(p.named m b (tgt m b)).tag,(p.named m b (tgt m b)).attr,(p.named m b (tgt m b)).inside,if(tgt m b==m && runs (tgt m b))=true then kept (tgt m b) (p.run++[b])else[],if(tgt m b==8 || tgt m b==9)=true then(if(tgt m b==m)=true then qcw p.far b else 2)else 0⟩:=by
  unfold Sp.step;rw[show p.step1 m b=_ from rfl];unfold Sp.step1;simp only[yL,yU,yF]
 have O:=qrt (b:=b) hm;generalize p.step m b=V at hV |-;generalize tgt m b=T at U hN Ha hV hR O;generalize p.named m b T=N at hN Ha hV;obtain⟨nm,nt,na,ni,nr,nf⟩:=N;obtain⟨rfl,rfl,rfl⟩:=Ha;generalize hQ:(fun(e:Ending) (w':World)=>e=.returned (qaz V)/\zW w w')=Q;have H0:=zH (Sp2.start w p);have HF:Hid (∀(wx:World) (q:Sp) (a:Act),wx.heap[w.heap.size+1]?=zK (qan ⟨0,[],[],[],[],0⟩) 94->zW w wx->V=q->a.tmps.getD 4 undef=zP (w.heap.size+1)->a.defers=[]->bodyPost prog f123 Q .ret a (set6 wx (w.heap.size+1) (zI q.mode) (.string ⟨q.tag.toArray⟩) (.string ⟨q.attr.toArray⟩) (.string ⟨q.inside.toArray⟩) (.string ⟨q.run.toArray⟩) (zI q.far))):=by
  intro wx q a h hl e h4 hd;refine qfs results123 (w.heap.size+1) _ underlying94 rfl (by kernel_rfl) h4 ⟨_,_,h,rfl⟩ hd _ _ _ _ _ _ ?_;rw[<-hQ,e];exact⟨rfl,qb9 hl (by omega) _ _ _ _ _ _⟩
 clear hQ;have HV:=zH hV;have HP:=(show Hid (p.mode=m)from J);have hb:=zH U;have Hc:=zH hc;have hz:(ByteArray.mk p.run.toArray).size=p.run.length:=by simp[ByteArray.size]
 unfold qaz at hN |-;unfold qan at H0 hN |-;rw[J]at H0 hN |-;simp only at hN;have HN:=zH hN;clear hV J U hN ht ha;go_enter func123,ntmps123
 go_upto_region 2 with(go_at_call 170;refine(hb.out _).mono ?_;rintro e w1 ⟨rfl,Hb⟩;have H1:=zH (H0.out.kept Hb);clear Hb)
 clear H0 hb;obtain⟨q0,q1,q2,q3,q4,q5⟩:=qbu H1.out.sp;rw[HP.out]at q0;by_cases t2:T=-2
 ·have y:Hid (V=(Sp.mk (qa8 m) p.tag p.attr p.inside [] p.far).step1 (qa8 m) b):=HV.out.trans (if_pos t2)
  have z:=hR t2;generalize (Sp.mk (qa8 m) p.tag p.attr p.inside [] p.far).step1 (qa8 m) b=N at y z;obtain⟨g0,_,_,_,g4,_⟩:=qgx H1.out.sp;have he:=O t2;have HX:=zH (fun a:Int=>Sp2.put (q:=⟨a,p.tag,p.attr,p.inside,[],p.far⟩) (Sp2.put (q:=⟨a,p.tag,p.attr,p.inside,p.run,p.far⟩) H1.out 0 (zI a) (by rfl)) 4 (zS) (by rfl));subst t2;clear hR O HV;unfold qaz qan at z;simp only at z;rcases he with rfl|rfl|rfl
  all_goals
   have He:=zH z;clear z;go_wp2_with (go_at_call 123;refine(He.out _).mono ?_;rintro e w3 ⟨rfl,D⟩;have H3:=(show Hid _ from(HX.out _).kept D);clear D;have r0:=qbu H3.out.res;have f0:=qgx H3.out.res)
   exact HF.out _ N _ H3.out.res H3.out.low y.out rfl rfl
 have b2:(T==-2)=false:=yf.2 t2;clear hR O;by_cases t1:T=-1
 ·have y:Hid (V=if qav p.tag=1 then Sp.start else⟨qav p.tag,p.tag,[],[],[],0⟩):=HV.out.trans ((if_neg t2).trans (if_pos t1))
  have hC:=fun w=>q88 p.tag w;generalize qav p.tag=C at y hC;have HC:=zH hC;subst t1;clear HV hC;go_upto_region 13 with(go_at_call 171;refine(HC.out _).mono ?_;rintro e w2 ⟨rfl,I⟩;have H2:=zH (H1.out.kept I);clear I)
  by_cases c1:C=1
  ·subst c1
   have D:=(xL w2.heap.size w2).alloc (yg _) (.cells #[zI 1,zS,zS,zS,zS,zI 0] 94);have H3:=zH (H2.out.kept D);clear D;have r0:=qbu H3.out.res;have f0:=qgx H3.out.res;go_wp2_with (go_at_call 34;refine(qln _).mono ?_;rintro e w3 ⟨rfl,rfl⟩)
   exact HF.out _ ⟨1,[],[],[],[],0⟩ _ H3.out.res H3.out.low y.out rfl rfl
  ·have c1':((C:Int)==1)=false:=yf.2 (by omega)
   have hf:Hid (V=⟨C,p.tag,[],[],[],0⟩):=y.out.trans (if_neg c1);obtain⟨_,q1,_,_,_,_⟩:=qbu H2.out.sp;have r0:=qbu H2.out.res;have f0:=qgx H2.out.res;go_wp2
   exact HF.out _ ⟨C,p.tag,[],[],[],0⟩ _ H2.out.res H2.out.low hf.out rfl rfl
 have b1:(T==-1)=false:=yf.2 t1;have y:Hid (V=⟨T,nt,na,ni,if(T==m && runs T)=true then kept T (p.run++[b])else[],if(T==8 || T==9)=true then(if(T==m)=true then qcw p.far b else 2)else 0⟩):=HV.out.trans ((if_neg t2).trans (if_neg t1));clear HV t1 t2;go_upto_region 17 with(go_at_call 172;refine(HN.out _).mono ?_;rintro e w2 ⟨rfl,I⟩;have H2:=zH (H1.out.kept I);clear I)
 have H3:=zH (H2.out.more ⟨0,nt,na,ni,[],0⟩);unfold qan at H3;generalize w2.heap.size=g at H3 |-;generalize World.alloc w2 _=w3 at H3 |-;clear H2 H1 HN q0 q1 q2 q3 q4 q5;have t0:=qaa H3.out.tt 0 _ rfl;have g0:=xH _ _ 0 _ _ H3.out.tt;go_upto_region 18 with fail
 have H4:Hid (Sp3 w (w3.setCell (zO g 0) (zI T)) g p ⟨T,nt,na,ni,[],0⟩):=H3.out.put 0 _ (by rfl);generalize World.setCell w3 _ _=w4 at H4 |-;clear H3 t0 g0;have q0:=qaa H4.out.sp 0 _ rfl;rw[HP.out]at q0;go_cut [64] (fun s wx=>s=.bool (T==m && runs T)/\wx=w4)
 case first=>
  cases e0:T==(m:Int)
  ·go_wp2
   go_meet
   exact⟨by rw[e0];rfl,rfl⟩
  cases e1:T==1
  rotate_left
  ·go_wp2
   go_meet
   exact⟨by rw[e0];unfold runs;rw[e1];rfl,rfl⟩
  cases e8:T==8
  rotate_left
  ·go_wp2
   go_meet
   exact⟨by rw[e0];unfold runs;rw[e1,e8];rfl,rfl⟩
  cases e9:T==9
  rotate_left
  ·go_wp2
   go_meet
   exact⟨by rw[e0];unfold runs;rw[e1,e8,e9];rfl,rfl⟩
  go_wp2_with (go_at_call 69;refine(qhy T _).mono ?_;rintro e w' ⟨rfl,rfl⟩)
  go_meet
  exact⟨by rw[e0];unfold runs;rw[e1,e8,e9];rfl,rfl⟩
 case rest=>
 obtain⟨rfl,rfl⟩:=hcut;generalize (T==(m:Int) && runs T)=X at y |-;go_upto_if 64 with fail
 go_cut [] (fun wx=>Hid (Sp3 w wx g p ⟨T,nt,na,ni,if X=true then kept T (p.run++[b])else[],0⟩))
 case first=>
  cases X
  ·go_wp2
   go_meet
   exact H4
  have q4:=fun o=>qaa (H4.out.alloc o).sp 4 _ rfl;have q4':=qaa H4.out.sp 4 _ rfl;have t4:=fun o=>qaa (H4.out.alloc o).tt 4 _ rfl;have g4:=fun o=>xH _ _ 4 _ _ (H4.out.alloc o).tt;have cv:=qi0 b wc _ rfl;go_wp2_with (go_at_call 169;refine(q26 T p.run b _ Hc.out).mono ?_;rintro e w' ⟨rfl,rfl⟩)
  go_meet
  exact(H4.out.alloc _).put 4 _ (by rfl)
 case rest=>
 have H5:=zH hcut.out;clear hcut H4 q0;have q0:=qaa H5.out.sp 0 _ rfl;have q5:=qaa H5.out.sp 5 _ rfl;rw[HP.out]at q0;generalize (if X=true then kept T (p.run++[b])else[])=R at y H5;go_upto_region 20 with fail
 go_cut [79] (fun s wx=>s=.bool (T==8 || T==9)/\wx=wc)
 case first=>
  cases e8:T==8<;>cases e9:T==9
  all_goals
   go_wp2
   go_meet
   exact⟨by rw[e8,e9];rfl,rfl⟩
 case rest=>
 obtain⟨rfl,rfl⟩:=hcut;generalize (T==8 || T==9)=Y at y |-;go_upto_if 79 with fail
 go_cut [] (fun wx=>Hid (Sp3 w wx g p ⟨T,nt,na,ni,R,if Y=true then(if(T==m)=true then qcw p.far b else 2)else 0⟩))
 case first=>
  cases Y
  ·go_wp2
   go_meet
   exact H5
  have t5:=qaa H5.out.tt 5 _ rfl;have g5:=xH _ _ 5 _ _ H5.out.tt;cases e0:T==(m:Int)
  ·go_wp2
   go_meet
   rw[e0,if_pos trivial,if_neg (by decide)];exact H5.out.put 5 _ (by rfl)
  go_upto_region 22 with fail
  have H6:Hid (Sp3 w (wc.setCell (zO g 5) (zI 2)) g p ⟨T,nt,na,ni,R,2⟩):=H5.out.put 5 _ (by rfl);generalize World.setCell wc _ _=w6 at H6 |-;clear q0 q5 t5 g5;obtain⟨q0,q1,q2,q3,q4,q5⟩:=qbu H6.out.sp;rw[HP.out]at q0;have t5:=qaa H6.out.tt 5 _ rfl;have g5:=xH _ _ 5 _ _ H6.out.tt;go_wp2_with (go_at_call 173;refine(qul p.far b _).mono ?_;rintro e w' ⟨rfl,rfl⟩)
  go_meet
  rw[e0,if_pos trivial,if_pos rfl];exact H6.out.put 5 _ (by rfl)
 case rest=>
 have H6:=zH hcut.out;clear hcut H5 q0 q5;generalize (if Y=true then(if(T==m)=true then qcw p.far b else 2)else 0)=Z at y H6;obtain⟨t0,t1,t2,t3,t4,t5⟩:=qbu H6.out.tt;have r0:=qbu H6.out.res;have f0:=qgx H6.out.res;go_wp2
 exact HF.out _ ⟨T,nt,na,ni,R,Z⟩ _ H6.out.res H6.out.low y.out rfl rfl
theorem qsm(p:Sp)(m:Nat)(b:UInt8)(w:World)(z:p.mode=m)(I:m<=33)(J:p.tag.length<=1000)(O:p.attr.length<=1000)(D:p.run.length<=2000000000000000000) :
  zC 123 #[qaz p,zJ b.toNat] w fun e w'=>e=.returned (qaz (p.step m b))/\zW w w':=by
 refine q7s p m b w z I J O D fun _ w=>?_;have y:∀m,qa8 m<=33:=fun m=>by
  unfold qa8
  repeat' split
  all_goals omega
 have T:¬tgt (qa8 m) b=-2:=fun q=>by
  have:=qrt (y m) q
  revert this
  unfold qa8
  repeat' split
  all_goals omega
 have:=q7s ⟨qa8 m,p.tag,p.attr,p.inside,[],p.far⟩ (qa8 m) b w rfl (y m) J O (by simp) fun q=>absurd q T;unfold Sp.step at this
 rwa [if_neg T]at this
end Go.Proofs.YtfkhljmiehdgmaaGreatDoor
