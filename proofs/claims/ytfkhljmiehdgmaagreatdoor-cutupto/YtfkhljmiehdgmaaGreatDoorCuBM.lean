/-
  Steps of the proof.
-/
import Derived.Test.YtfkhljmiehdgmaaGreatDoorCuBL
set_option maxRecDepth 100000
set_option maxHeartbeats 40000000
namespace Go.Proofs.YtfkhljmiehdgmaaGreatDoor
open Go.RowKit Go.Proofs.Tryz Pl
def qft(b:Sx×Nat):List Value:=[zJ (b.1.st.mode:Int),bs b.1.st.name,bs b.1.st.elem,zI b.1.st.kind,zI (b.1.st.read:Int),.bool b.1.ma.ref,.bool b.1.st.esc,zI b.1.ma.hex,zI b.1.ma.pct,zI b.1.ma.far,zI (b.2:Nat)]
def qgj(L:List (Sx×Nat)):List Value:=L.flatMap qft
theorem qrp(L:List (Sx×Nat)):(qgj L).length=L.length*11:=by
 induction L with
 |nil=>rfl
 |cons p L ih=>show(qgj L).length+11=_;rw[ih,yK];omega
theorem qow(L:List (Sx×Nat))(b:Sx×Nat):qgj (L++[b])=qgj L++qft b:=by simp[qgj]
theorem qtx:∀(L:List (Sx×Nat)) (k:Nat) (b:Sx×Nat),L[k]?=some b->∀(j:Nat) (v:Value),(qft b)[j]?=some v->(qgj L)[k*11+j]?=some v
 |[],k,p,e=>by simp at e
 |q::L,0,p,e=>by
   simp only[yS,Option.some.injEq]at e;subst e;intro j v y;show(qft q++qgj L)[0*11+j]?=some v;rw[Nat.zero_mul,xf,yr (yb.1 y).1];exact y
 |q::L,k+1,p,e=>by
   intro j v y;have:=qtx L k p (by simpa using e) j v y;show(qft q++qgj L)[(k+1)*11+j]?=some v;rw[yt (by simp[qft];omega)];have e:(k+1)*11+j - (qft q).length=k*11+j:=by simp[qft];omega
   rw[e];exact this
theorem qr1:(234:TypeId)≠178:=by decide
theorem qud:(234:TypeId)≠162:=by decide
structure Thi(w wr:World)(B:Nat)(F:Fix)(S:List Src)(vv:Value)(M:List Nat)(s:Sr)(E:Nat)(e:En)(v g len:Nat)(G:Nat)(x:Sx)(vb:Value)(L:List (Sx×Nat)):Prop where
 sv:SvAt wr B F S vv M s
 ent:wr.heap[E]?=zK (qao e) 180
 now:StIn wr G x
 mks:M[v]?=some g
 vis:∃u,s.vis[v]?=some u/\u.2.length=len
 row:wr.ownsRow w.heap.size 234 11 vb L.length (qgj L)
 old:w.heap.size<=G/\B<=w.heap.size
 cuv:Cuv B F w wr
 tabs:TabB B wr
section
variable {w wr w':World}{B:Nat}{F:Fix}{S:List Src}{vv vv':Value}{M M':List Nat}{s s':Sr}{E:Nat}{e:En}{v g len G:Nat}{x:Sx}{vb:Value}{L:List (Sx×Nat)}
theorem Thi.below(h:Thi w wr B F S vv M s E e v g len G x vb L)(y:zW wr w'):Thi w w' B F S vv M s E e v g len G x vb L:=
 have z:B<=wr.heap.size:=yh h.old.2 h.cuv.below.size
 ⟨h.sv.below y,(y.block _ (ya.1 h.ent).1).trans h.ent,h.now.below y,h.mks,h.vis,qab h.row fun k D=>y.block k (h.row.lt k D).2,h.old,h.cuv.trans (Cuv.of_below y z),h.tabs.kept (y.mono z)⟩
theorem Thi.alloc(h:Thi w wr B F S vv M s E e v g len G x vb L)(o:Obj):Thi w (wr.alloc o) B F S vv M s E e v g len G x vb L:=h.below (zB o)
theorem Thi.drew(h:Thi w wr B F S vv M s E e v g len G x vb L):Thi w wr.drew B F S vv M s E e v g len G x vb L:=h.below (xL _ _).drew
theorem Thi.drewN(h:Thi w wr B F S vv M s E e v g len G x vb L)(n:Nat):Thi w (wr.drewN n) B F S vv M s E e v g len G x vb L:=h.below (qat (xL _ _) n)
theorem Thi.turn(h:Thi w wr B F S vv M s E e v g len G x vb L){ext:List Nat}(z:SvAt w' B F S vv' (M++ext) s')(D:Cuv B F wr w')(I:Gv s s'):Thi w w' B F S vv' (M++ext) s' E e v g len G x vb L:=by
 have k1:=D.keep G _ _ _ h.now (qae h.now h.sv.se.blk qb5) (by decide) (by decide);have k3:=D.keep E _ _ _ h.ent (qae h.ent h.sv.se.blk qb6) (by decide) (by decide);refine⟨z,k3.trans h.ent,k1.trans h.now,?_,?_,qab h.row fun k J=>?_,h.old,h.cuv.trans D,h.tabs.kept D.below⟩
 ·rw[yr (yb.1 h.mks).1];exact h.mks
 ·obtain⟨u,O,T⟩:=h.vis
  obtain⟨u',e1,_,e3⟩:=I.vis v u O;exact⟨u',e1,e3.trans T⟩
 ·obtain⟨cur,y⟩:=qac h.row k J
  exact D.keep k _ _ _ y (qae y h.sv.se.blk qr1) (by decide) (by decide)
theorem Thi.set(h:Thi w wr B F S vv M s E e v g len G x vb L)(y:Sx):Thi w (qdf wr G (zJ (y.st.mode:Int)) (.string ⟨y.st.name.toArray⟩) (.string ⟨y.st.elem.toArray⟩) (zI y.st.kind) (zI (y.st.read:Int)) (.bool y.ma.ref) (.bool y.st.esc) (zI y.ma.hex) (zI y.ma.pct) (zI y.ma.far)) B F S vv M s E e v g len G y vb L:=by
 have z:=fun k (J:k≠G)=>qha (w:=wr) J (zJ (y.st.mode:Int)) (.string ⟨y.st.name.toArray⟩) (.string ⟨y.st.elem.toArray⟩) (zI y.st.kind) (zI (y.st.read:Int)) (.bool y.ma.ref) (.bool y.st.esc) (zI y.ma.hex) (zI y.ma.pct) (zI y.ma.far);have D:Below G wr (qdf wr G (zJ (y.st.mode:Int)) (.string ⟨y.st.name.toArray⟩) (.string ⟨y.st.elem.toArray⟩) (zI y.st.kind) (zI (y.st.read:Int)) (.bool y.ma.ref) (.bool y.st.esc) (zI y.ma.hex) (zI y.ma.pct) (zI y.ma.far)):=qfe (xL _ _) (yg _) _ _ _ _ _ _ _ _ _ _;have O:=h.now.set y;generalize qdf wr G _ _ _ _ _ _ _ _ _ _=w' at z D O |-;have T:=D.mono (yh h.old.2 h.old.1);refine⟨h.sv.far h.now z,(z _ (qae h.ent h.now qh2)).trans h.ent,O,h.mks,h.vis,qab h.row fun k J=>z k ?_,h.old,⟨h.cuv.below.trans T,fun k cs t fz J U V X=>(z k (fun e=>?_)).trans (h.cuv.keep k cs t fz J U V X)⟩,h.tabs.kept T⟩
 ·obtain⟨cur,I⟩:=qac h.row k J
  exact qae I h.now qud
 ·have:=(ya.1 J).1
  have:=h.old.1;omega
theorem Thi.mark(h:Thi w wr B F S vv M s E e v g len G x vb L)(a:Nat)(m:Int):Thi w (wr.setCell (zO g a) (zI m)) B F S vv M (s.mark v a m) E e v g len G x vb L:=by
 obtain⟨y,z⟩:=h.sv.mark h.mks a m;have:=h.turn (ext:=[]) (by rw[yw];exact y) z (Gv.mark s v a m)
 rwa [yw]at this
theorem Thi.cell(h:Thi w wr B F S vv M s E e v g len G x vb L)(a:Nat)(y:a<len):(∃z,wr.cell? (zO g a)=some (zI z))/\wr.frozen? (zO g a)=false:=by
 obtain⟨u,D,I⟩:=h.vis;obtain⟨J,_⟩:=h.sv.marks v g u h.mks D;refine⟨⟨u.2[a]'(by omega),?_⟩,by simp[World.frozen?,J]⟩;refine qaa J a _ ?_;simp[qe2]
theorem Thi.push(h:Thi w wr B F S vv M s E e v g len G x vb L){w0:World}{vb':Value}(b:Sx×Nat)(V:zW wr w0)(J:w'.ownsRow w.heap.size 234 11 vb' (L.length+1) (qgj L++qft b))(y:w0.grownBy w' vb.ownBlock):Thi w w' B F S vv M s E e v g len G x vb' (L++[b]):=by
 have h0:=h.below V;have z:∀(k:Nat) (cs:Array Value) (t:TypeId) (fz:Nat×Nat),w0.heap[k]?=some (.cells cs t fz)->t≠234->w'.heap[k]?=w0.heap[k]?:=fun k cs t fz hk ht=>y.block k (ya.1 hk).1 (fun e=>by
  obtain⟨cur,O⟩:=qac h0.row k e.symm;exact qae hk O ht rfl)
 have T:∀b Lm,qfj w0 b Lm->w'.heap[b]?=w0.heap[b]?:=fun b Lm hm=>y.block b hm.lt (fun e=>by
  obtain⟨cur,O⟩:=qac h0.row b e.symm;exact qak O hm rfl)
 have D:∀k,vb.ownBlock=some k->w.heap.size<=k:=fun k hk=>(h0.row.lt k hk).1;obtain⟨cs',fz',X⟩:=h0.sv.se.src.blk;have Y:SeAt w' B F S vv s:=by
  refine⟨(z _ _ _ _ h0.sv.se.blk (by decide)).trans h0.sv.se.blk,h0.sv.se.src.kept (z _ _ _ _ X (by decide)) (fun i s' q hs hv=>?_),h0.sv.se.places.heap (T _ _ h0.sv.se.places),h0.sv.se.ends.heap (T _ _ h0.sv.se.ends),h0.sv.se.le,h0.sv.se.apart⟩;obtain⟨cur,U⟩:=qac (h0.sv.se.src.row i s' hs) q hv;exact z _ _ _ _ U (by decide)
 have Z:SvAt w' B F S vv M s:=by
  refine⟨Y,h0.sv.nums.heap (T _ _ h0.sv.nums),qab h0.sv.row fun k hk=>?_,h0.sv.len,fun i g v hi hv=>?_,h0.sv.one,h0.sv.apart⟩
  ·obtain⟨cur,U⟩:=qac h0.sv.row k hk
   exact z _ _ _ _ U (by decide)
  ·obtain⟨q1,q2⟩:=h0.sv.marks i g v hi hv
   exact⟨(z _ _ _ _ q1 (by decide)).trans q1,q2⟩
 have I:Below w.heap.size w0 w':=⟨y.os,y.tape,y.output,y.size,fun k hk=>y.block k (by have:=h0.cuv.below.size;omega) (fun e=>by have:=D k e.symm;omega)⟩;refine⟨Z,(z _ _ _ _ h0.ent (by decide)).trans h0.ent,(z _ _ _ _ h0.now (by decide)).trans h0.now,h0.mks,h0.vis,?_,h0.old,⟨h0.cuv.below.trans (I.mono h0.old.2),fun k cs t fz hk h1 h2 h3=>?_⟩,h0.tabs.kept (I.mono h0.old.2)⟩
 ·rw[yJ,qow];exact J
 ·have ha:=(ya.1 hk).1
  exact(y.block k (by have:=h0.cuv.below.size;omega) (fun e=>by have:=D k e.symm;omega)).trans (h0.cuv.keep k cs t fz hk h1 h2 h3)
end
section
open Go.Maps
theorem zd3{x:Sx}(h:SxFit x):∃l,keyOf prog 162 (qar x)=some l:=by
 obtain⟨z,D,I,J,O,T,U⟩:=qz7 h.ok;have V:=h.far;obtain⟨d,X⟩:∃d,prog.types.size+1=d+3:=⟨prog.types.size - 2,by
  have:4<=prog.types.size:=by decide +kernel
  omega⟩
 obtain⟨l,Y⟩:=q7u d x.st.mode ⟨x.st.name.toArray⟩ ⟨x.st.elem.toArray⟩ x.st.kind x.st.read x.ma.ref x.st.esc x.ma.hex x.ma.pct x.ma.far z (by simp[ByteArray.size];unfold maxLen;omega) (by simp[ByteArray.size];unfold maxLen;omega) J O T U (WalkArith.wf_i64 (by omega));have Z:prog.keyType 162=true:=by kernel_rfl
 have y:(qar x).formed prog 162=true:=by
  unfold qar Value.formed;simp[underlying162,ql2,qaf]
 unfold keyOf;simp only[underlying162];rw[Z,y,X];unfold qar qaf bs;simp[Value.cells,Y]
theorem q7n{x y:Sx}(h:qar x=qar y):x=y:=by
 have:=@qj5 (0,x) (0,y) (by
  unfold qar at h;injection h with h;unfold qge;simp only[h])
 injection this
theorem q2p(w:World){x y:Sx}(D:SxFit x)(I:SxFit y):(Op.equal 162 (qar x) (qar y)).run prog w=.ok (decide (x=y)) w:=by
 obtain⟨lx,J⟩:=zd3 D;obtain⟨ly,O⟩:=zd3 I;obtain⟨r,T,z⟩:=run_equal_deep w (m:=4) (by decide) (by kernel_rfl) (by kernel_rfl) J O;rw[T];have:r=decide (x=y):=by
  rw[xh,z,decide_eq_true_iff];constructor
  ·intro e
   exact q7n (keyOf_inj_deep (m:=4) (k:=162) (by kernel_rfl) (by kernel_rfl) J (by rw[O,e]))
  ·rintro rfl
   rw[J]at O;exact yk O
 rw[this]
theorem qsk(w:World)(x y:Sx)(o1 o2:Operand):(eqGuard .neq 162 o1 o2 (qar x) (qar y)).run prog w=.ok () w:=by
 unfold eqGuard qar;simp[run_program]
theorem zd2(w:World){x y:Sx}(z:SxFit x)(D:SxFit y):(binOp .neq 162 (qar x) (qar y)).run prog w=.ok (.bool (!decide (x=y))) w:=by
 have h:=q2p w z D;unfold binOp qar;unfold qar at h;simp[h]
theorem qsl(w:World){x y:Sx}(z:SxFit x)(D:SxFit y):(Op.equalIn 10000 162 (qar x) (qar y)).run prog w=.ok (decide (x=y)) w:=by
 have h:=q2p w z D;unfold qar at h |-;simpa [Op.equal,Op.maxDepth]using h
section
variable {w wr w':World}{B:Nat}{F:Fix}{S:List Src}{vv vv':Value}{M M':List Nat}{s s':Sr}{E:Nat}{e:En}{v g len G:Nat}{x:Sx}{L:List (Sx×Nat)}{b:Sx×Nat}{av:Option Addr}{cv:Nat}
theorem qzd(L:List (Sx×Nat))(b:Sx×Nat):(qgj (L++[b])).take (L.length*11)=qgj L:=by
 rw[qow,<-qrp,List.take_left]
theorem Thi.pop(h:Thi w wr B F S vv M s E e v g len G x (.slice av (L++[b]).length cv) (L++[b])):Thi w wr B F S vv M s E e v g len G x (.slice av L.length cv) L:=by
 have I:(L++[b]).length=L.length+1:=by simp
 have J:=h.row;obtain⟨gb,cb,O,_⟩:=qai J (by omega);injection O with y z D;subst y;refine⟨h.sv,h.ent,h.now,h.mks,h.vis,?_,h.old,h.cuv,h.tabs⟩;have:=qjt J L.length (by omega)
 rwa [qzd]at this
theorem Thi.last(h:Thi w wr B F S vv M s E e v g len G x (.slice av (L++[b]).length cv) (L++[b])):∃gb,av=some (zO gb 0)/\(L.length+1<=cv/\cv<=maxLen)/\∀j v,(qft b)[j]?=some v->wr.cell? (zO gb (L.length*11+j))=some v:=by
 have U:(L++[b]).length=L.length+1:=by simp
 have V:=h.row;have y:L.length+1<=cv/\cv<=maxLen:=by
  rcases V.2 with⟨X,Y⟩|⟨g,cap,cur,Z,_,_,h3,h4,_⟩
  ·omega
  ·injection Z with I J z
   subst z;omega
 obtain⟨gb,cb,hg,_⟩:=qai V (by omega);injection hg with D O T;subst D;refine⟨gb,rfl,y,fun j v Z=>?_⟩;have hc:=qtx (L++[b]) L.length b (by simp) j v Z;exact(h.row.cellAt (L.length*11+j) (by have q:=(yb.1 hc).1;rw[qrp]at q;exact q)).trans hc
end
end
namespace Pl
def qh0(S:List Src)(s:Sr)(e:En)(len:Nat):Sr:=
 if(qd7 (behV S 257) (qah S e.1) ((qah S e.1).length+1) 0 s e.2).2.isNone=false/\(qd7 (behV S 257) (qah S e.1) ((qah S e.1).length+1) 0 s e.2).2≠e.2 then(qd7 (behV S 257) (qah S e.1) ((qah S e.1).length+1) 0 s e.2).1.wrong S e.1 15 len else(qd7 (behV S 257) (qah S e.1) ((qah S e.1).length+1) 0 s e.2).1
end Pl
theorem qy3(HB:qhp)(S:List Pl.Src)(hS:SrcsOk S)(w:World)(B:Nat)(F:Fix)(vv:Value)(s:Pl.Sr)(e:Pl.En)(len:Nat)(h:SeAt w B F S vv s)(ho:EndsOk S.length s.ends)(he:SxFit e.2)(hi:e.1<S.length)(hB:B<=w.heap.size)(ht:TabB B w) :
  zC 76 #[zP F.g,qge e,zI len] w fun ed w'=>(∃r,ed=.returned r)/\SeAt w' B F S vv (Pl.qh0 S s e len)/\Cue B F w w':=by
 have Y:=qo6 (qke S 257 s.ends.length (by omega)) (Pl.qah S e.1) ((Pl.qah S e.1).length+1) 0 s e.2 ho (yg _) (.inr he);have hW:=fun(w5:World) (h5:SeAt w5 B F S vv s) (Hb:B<=w5.heap.size) (t5:TabB B w5)=>q2j HB S hS 257 (behC HB S hS 257) w5 B F vv s e h5 ho (by omega) he hi Hb t5;unfold Pl.qh0;generalize Pl.qd7 (Pl.behV S 257) (Pl.qah S e.1) ((Pl.qah S e.1).length+1) 0 s e.2=r at Y hW |-;obtain⟨s2,y⟩:=r;simp only at Y hW |-;obtain⟨R,hR⟩:∃R,R=(if y.isNone=false/\y≠e.2 then s2.wrong S e.1 15 len else s2):=⟨_,rfl⟩;rw[<-hR];have HR:=zH hR;clear hR;have z:=fun w=>qu0 y w;have Hc:=zH (fun(w5:World) (h5:SeAt w5 B F S vv s2) (Hb:B<=w5.heap.size)=>ql7 S w5 B F vv s2 e 15 len h5 hi Hb);have HA:=zH h;have HT:=zH ht;rw[qbj];rw[qbj]at hW Hc;unfold qao bs;unfold qar qao qaf bs at hW;unfold qar qaf bs at z;unfold qao bs at Hc;have HW:=zH hW;have HE:Hid ((w.alloc (.cells (qao e) 180)).heap[w.heap.size]?=zK (qao e) 180):=xF w _;have O:Hid (∀w5,Cue B F (w.alloc (.cells (qao e) 180)) w5->w5.heap[w.heap.size]?=zK (qao e) 180):=fun w5 hc=>(hc.keep w.heap.size (by simp) (qae HE.out (h.alloc _).blk qb6) (qak HE.out (h.alloc _).ends)).trans HE.out;have He:Hid (∀w5,Cue B F (w.alloc (.cells (qao e) 180)) w5->Cue B F w w5):=fun w5 hc=>(Cue.of_below ((xL w.heap.size w).alloc (yg _) _) hB).trans hc;unfold qao bs at O He;have hf:=zH hB;clear h ht hW HE;go_enter func76,ntmps76
 go_wp2_with fail
 refine(HW.out _ (HA.out.alloc _) (yh hf.out (by simp)) (TabB.kept HT.out (((xL w.heap.size w).alloc (yg _) _).mono hf.out))).mono ?_;rintro ed w2 ⟨rfl,Z,X⟩;have T:=zH Z;have J:=zH (O.out w2 X);have ha:=zH (He.out w2 X);clear Z X;have Hg:B<=w2.heap.size:=yh hf.out ha.out.below.size;have Ha:=(show Hid (B<=w2.heap.size)from Hg);clear Hg HW O He HA HT;by_cases hn:y.isNone=true
 ·have hb:(y.st.mode==0)=true:=hn
  rw[hb]at z;have HN:=zH hn;have HQ:Hid (R=s2):=by show _=_;rw[HR.out,if_neg (by rintro⟨h1,_⟩;rw[hn]at h1;cases h1)]
  clear hb hn;go_wp2_with fail
  refine(z _).mono ?_;rintro ed w3 ⟨rfl,I⟩;have H3:Hid (SeAt w3 B F S vv s2/\Cue B F w2 w3):=by rw[<-I];exact⟨(T.out.alloc _).alloc _,Cue.of_below ((zB _).alloc (by simp) _) Ha.out⟩
  clear I;go_wp2_with fail
  go_end0
  exact⟨⟨_,rfl⟩,by rw[HQ.out];exact H3.out.1,ha.out.trans H3.out.2⟩
 ·have Hf:=qq9 Y.2 hn
  have hg:y.isNone=false:=ye.2 hn;have hb:(y.st.mode==0)=false:=hg;rw[hb]at z;have heq:=fun w=>zd2 w Hf he;have Hi:=fun w=>qsk w y e.2;have U:=fun w=>qsl w Hf he;unfold qar qaf bs at heq Hi U;have HN:=zH hg;clear hb hn hg Hf Y;by_cases hx:y=e.2
  ·rw[yV hx]at heq U
   have HQ:Hid (R=s2):=by show _=_;rw[HR.out,if_neg (fun q=>q.2 hx)]
   clear hx;go_wp2_with fail
   refine(z _).mono ?_;rintro ed w3 ⟨rfl,I⟩;have H3:Hid (SeAt w3 B F S vv s2/\Cue B F w2 w3):=by rw[<-I];exact⟨(T.out.alloc _).alloc _,Cue.of_below ((zB _).alloc (by simp) _) Ha.out⟩
   have hy:StIn w3 w2.heap.size y:=by rw[<-I];exact(xI _ _ (by simp)).trans (xF _ _)
   have D:w3.heap[w.heap.size]?=zK (qao e) 180:=(H3.out.2.keep w.heap.size (ya.1 J.out).1 (qae J.out T.out.blk qb6) (qak J.out T.out.ends)).trans J.out;have V:=qct D;unfold qao bs at V;have m0:=al V;have q0:=hy.at'.all;clear V D hy I;go_wp2_with fail
   go_end0
   exact⟨⟨_,rfl⟩,by rw[HQ.out];exact H3.out.1,ha.out.trans H3.out.2⟩
  ·rw[yx hx]at heq U
   have HQ:Hid (R=s2.wrong S e.1 15 len):=by show _=_;rw[HR.out,if_pos ⟨HN.out,hx⟩]
   clear hx;go_wp2_with fail
   refine(z _).mono ?_;rintro ed w3 ⟨rfl,I⟩;have H3:Hid (SeAt w3 B F S vv s2/\Cue B F w2 w3):=by rw[<-I];exact⟨(T.out.alloc _).alloc _,Cue.of_below ((zB _).alloc (by simp) _) Ha.out⟩
   have hy:StIn w3 w2.heap.size y:=by rw[<-I];exact(xI _ _ (by simp)).trans (xF _ _)
   have D:w3.heap[w.heap.size]?=zK (qao e) 180:=(H3.out.2.keep w.heap.size (ya.1 J.out).1 (qae J.out T.out.blk qb6) (qak J.out T.out.ends)).trans J.out;have V:=qct D;unfold qao bs at V;have m0:=al V;have q0:=hy.at'.all;clear V D hy I;go_wp2_with fail
   refine(Hc.out _ H3.out.1 (yh Ha.out H3.out.2.below.size)).mono ?_;rintro ed w4 ⟨⟨r,rfl⟩,Z,X⟩;go_wp2_with fail
   go_end0
   exact⟨⟨_,rfl⟩,by rw[HQ.out];exact Z,ha.out.trans (H3.out.2.trans X)⟩
section
open Go.Maps
variable{P:Program}{w wr:World}{L M:List (Value×Value)}{S:List Pl.Src}{B R n:Nat}{F:Fix}
theorem qfb{fn:Func}{R:Ending->World->Prop}{a:Act}{t p:Tmp}{ty:TypeId}(h:fn.results=#[.tmp t,.cell p ty])(y:a.defers=[])(g:Nat)(x:Value)(cs:Array Value)(z:a.tmps.getD t undef=x)(D:a.tmps.getD p undef=zP g)
  (I:w.heap[g]?=zK cs ty) (d:TypeDesc) (J:P.underlying ty=some d) (hd:aggD d=true) (O:(P.info? ty).map (·.size)=some cs.size) (T:R (.returned (.tuple #[x,.agg cs])) w):bodyPost P fn R .ret a w:=by
 subst z;refine bodyPost_ret ?_ y T;have U:=qbb (P:=P) w g ty cs d (qaa I) J (by cases d<;>first|rfl|cases hd) O
 rw[yY]at D;simp only[results,h];simp[D,asAddr,U]
theorem qoi(s:Pl.Src):∀(l:List Pl.Src) (i:Nat),qbw i (l++[s])=qbw i l++[(bs s.name,zI (i+l.length:Nat))]
 |[],i=>by simp[qbw]
 |a::l,i=>by
   show(bs a.name,Value.int .i64 i)::qbw (i+1) (l++[s])=_;rw[qoi s l (i+1)];show _::(qbw (i+1) l++[(bs s.name,Value.int .i64 ((i+1+l.length:Nat):Int))])=(bs a.name,Value.int .i64 i)::(qbw (i+1) l++[(bs s.name,Value.int .i64 ((i+(l.length+1):Nat):Int))]);rw[show i+1+l.length=i+(l.length+1) by omega]
theorem qlb(m:List Pl.Src):∀(l:List Pl.Src) (i:Nat),qbw i (l++m)=qbw i l++qbw (i+l.length) m
 |[],i=>by simp[qbw]
 |a::l,i=>by
   show(bs a.name,Value.int .i64 i)::qbw (i+1) (l++m)=(bs a.name,Value.int .i64 i)::(qbw (i+1) l++qbw (i+(l.length+1)) m);rw[qlb m l (i+1),show i+1+l.length=i+(l.length+1) by omega]
theorem KeysOk.front{K:TypeId}(h:KeysOk P K (L++M)):KeysOk P K L:=
 ⟨fun p y=>h.key p (List.mem_append_left _ y),fun i j p q z D e=>h.one i j p q (by rw[yr (yb.1 z).1];exact z) (by rw[yr (yb.1 D).1];exact D) e⟩
theorem KeysOk.apart{K:TypeId}{x:Value×Value}(h:KeysOk P K (L++x::M)):∀p∈L,p.1≠x.1:=fun p y e=>by
 obtain⟨i,z⟩:=xj y;have D:=(yb.1 z).1;have:=h.one i L.length p x (by rw[yr D];exact z) (by simp) e;omega
theorem q0y(J:SrcsOk S){k:Nat}{s:Pl.Src}(O:1<=k)(T:S[k]?=some s) :
  KeysOk prog 9 (qbw 1 ((S.drop 1).take (k - 1)))/\(∀p∈qbw 1 ((S.drop 1).take (k - 1)),p.1≠bs s.name)/\qbw 1 ((S.drop 1).take (k - 1))++[(bs s.name,zI (k:Nat))]=qbw 1 ((S.drop 1).take k):=by
 have I:=(yb.1 T).1;have hd:(S.drop 1)[k - 1]?=some s:=by rw[List.getElem?_drop,show 1+(k - 1)=k by omega];exact T
 have z:=(yb.1 hd).1;have D:((S.drop 1).take (k - 1)).length=k - 1:=by rw[yP];omega
 have e1:(S.drop 1).take k=(S.drop 1).take (k - 1)++[s]:=by
  have U:=yB z;rw[show k - 1+1=k by omega]at U;rw[U]
  congr 2
  rw[yc z]at hd;exact yk hd
 have e2:qbw 1 ((S.drop 1).take (k - 1))++[(bs s.name,zI (k:Nat))]=qbw 1 ((S.drop 1).take k):=by
  rw[e1,qoi,D,show 1+(k - 1)=k by omega]
 have y:=qqk J;rw[<-yu k (S.drop 1),qlb,<-e2,yq]at y;exact⟨y.front,KeysOk.apart (x:=(bs s.name,zI (k:Nat))) y,e2⟩
structure Lki(w wr:World)(B:Nat)(F:Fix)(S:List Pl.Src)(R n:Nat):Prop where
 blk:wr.heap[F.g]?=zK (qlm F S.length (zN) Pl.Ft.none) 178
 src:SrcAt wr B F S
 places:qfj wr F.bp (qbw 1 ((S.drop 1).take (n - 1)))
 ends:qfj wr F.be []
 nums:qfj wr F.bn []
 res:wr.heap[R]?=zK #[zI 0,zI 0,zS,zI 0] 31
 le:B<=F.g/\B<=F.be/\B<=F.bn/\B<=F.bp/\B<=R
 apart:F.g≠F.be/\F.bp≠F.be/\F.bn≠F.be/\F.bn≠F.bp
 below:Below B w wr
 old:w.heap.size<=F.g/\w.heap.size<=F.bp/\w.heap.size<=R/\w.heap.size<=wr.heap.size
 kp:∀k,k<w.heap.size->wr.heap[k]?=w.heap[k]?
theorem Lki.next{w':World}(h:Lki w wr B F S R n)(y:zW wr w')(z:B<=wr.heap.size):Lki w w' B F S R n:=
 ⟨(y.block _ (zL h.blk)).trans h.blk,h.src.kept (by obtain⟨cs,fz,D⟩:=h.src.blk;exact y.block _ (ya.1 D).1) (fun i s k I J=>by obtain⟨cur,D⟩:=qac (h.src.row i s I) k J;exact y.block _ (ya.1 D).1),h.places.heap (y.block _ h.places.lt),h.ends.heap (y.block _ h.ends.lt),h.nums.heap (y.block _ h.nums.lt),(y.block _ (zL h.res)).trans h.res,h.le,h.apart,h.below.trans (y.mono z),⟨h.old.1,h.old.2.1,h.old.2.2.1,yh h.old.2.2.2 y.size⟩,fun k O=>(y.block k (yi O h.old.2.2.2)).trans (h.kp k O)⟩
theorem Lki.put(h:Lki w wr B F S R n)(J:SrcsOk S)(O:1<=n){s:Pl.Src}(T:S[n]?=some s) :
  ∃w',(Instr.mapUpdate 174 (.map (some F.bp)) (.string ⟨s.name.toArray⟩) (zI n)).run prog wr=.ok () w'/\Lki w w' B F S R (n+1)/\w'.heap.size=wr.heap.size:=by
 obtain⟨k1,k2,k3⟩:=q0y J O T;obtain⟨kl,z⟩:=q0a ⟨s.name.toArray⟩ (by rw[q2b];have:=J.short n s T;unfold maxLen;omega);obtain⟨w',U,V,X,Y⟩:=qiw (val:=zI n) qno underlying174 h.places k1 z k2;have Z:∀k,k<wr.heap.size->k≠F.bp->w'.heap[k]?=wr.heap[k]?:=fun k Z D=>X.block k Z (fun e=>D (yk e));refine⟨w',U,?_,Y⟩;have y:∀(k:Nat) (cs:Array Value) (t:TypeId) (fz:Nat×Nat),wr.heap[k]?=some (Obj.cells cs t fz)->w'.heap[k]?=wr.heap[k]?:=fun k cs t fz hc=>Z k (ya.1 hc).1 (qak hc h.places);refine⟨(y _ _ _ _ h.blk).trans h.blk,h.src.kept (by obtain⟨cs,fz,hc⟩:=h.src.blk;exact y _ _ _ _ hc) (fun i s k T hv=>by obtain⟨cur,hc⟩:=qac (h.src.row i s T) k hv;exact y _ _ _ _ hc),?_,h.ends.heap (Z _ h.ends.lt h.apart.2.1.symm),h.nums.heap (Z _ h.nums.lt h.apart.2.2.2),(y _ _ _ _ h.res).trans h.res,h.le,h.apart,h.below.trans ⟨X.os,X.tape,X.output,X.size,fun k I=>X.block k ?_ (fun e=>?_)⟩,⟨h.old.1,h.old.2.1,h.old.2.2.1,by rw[Y];exact h.old.2.2.2⟩,fun q hq=>(Z q (yi hq h.old.2.2.2) (by have:=h.old.2.1;omega)).trans (h.kp q hq)⟩
 ·unfold bs at k3
  rw[k3]at V;exact V
 ·have:=h.below.size;have:=h.places.lt;have:=h.le.2.2.2.1;omega
 ·have:=h.le.2.2.2.1;have:=yk e;omega
theorem Lki.drew(h:Lki w wr B F S R n)(y:B<=wr.heap.size):Lki w wr.drew B F S R n:=h.next (xL _ _).drew y
def Pl.Sr.zero:Pl.Sr:=⟨[],[],[],Pl.Ft.none⟩
theorem Lki.start(h:Lki w wr B F S R n)(y:S.length<=n):SvAt wr B F S (zN) [] Pl.Sr.zero:=by
 have e:(S.drop 1).take (n - 1)=S.drop 1:=yp (by rw[yM];omega);have z:=h.places;rw[e]at z;exact⟨⟨h.blk,h.src,z,h.ends,⟨h.le.1,h.le.2.1⟩,h.apart.1,h.apart.2.1⟩,h.nums,World.ownsRow_nil _ _ _ _,rfl,fun i g v D=>by simp at D,List.nodup_nil,h.apart.2.2.1,h.apart.2.2.2,h.le.2.2.1⟩
theorem qus(y:SrcsOk S):Pre S Pl.Sr.zero (0,Pl.Sx.start):=by
 exact⟨⟨q59 _,fun p z=>(by cases z),fun i j p q D=>(by simp[Pl.Sr.zero]at D),fun p z=>(by cases z),fun p z=>(by cases z),rfl⟩,rfl,.inl ⟨rfl,rfl⟩,qmi,y.few.1⟩
namespace Pl
theorem q19(S:List Src)(s:Sr)(e:En)(len:Nat)(z:EndsOk S.length s.ends)(D:SxFit e.2):(qh0 S s e len).nums=s.nums/\(qh0 S s e len).vis=s.vis:=by
 have y:=qo6 (qke S 257 s.ends.length (by omega)) (qah S e.1) ((qah S e.1).length+1) 0 s e.2 z (yg _) (.inr D);unfold qh0;split
 ·exact⟨y.1.nums,y.1.vis⟩
 ·exact⟨y.1.nums,y.1.vis⟩
theorem qqv(S:List Src)(len:Nat):qew S len =
  if(qev S 258 Sr.zero (0,Sx.start)).fault.code≠0 then([],(qev S 258 Sr.zero (0,Sx.start)).fault)else
  if(qh0 S (qev S 258 Sr.zero (0,Sx.start)) (0,Sx.start) len).fault.code≠0 then([],(qh0 S (qev S 258 Sr.zero (0,Sx.start)) (0,Sx.start) len).fault)
  else((qh0 S (qev S 258 Sr.zero (0,Sx.start)) (0,Sx.start) len).vis,Ft.none):=by
 unfold qew qh0 Sr.zero;simp only;split
 ·rfl
 ·split
  ·rename_i h
   rw[if_pos (by simp[Sr.wrong])];rfl
  ·rfl
end Pl
variable{w wr:World}{B R E:Nat}{S:List Src}{F:Fix}{vv:Value}{M:List Nat}{s:Sr}
theorem q8z{bS:Nat}{pv:Nat->Value}(y:SrcAt w B ⟨0,bS,0,0,0,pv⟩ S)(z:B<=w.heap.size) :
  Lki w (((((w.alloc (.cells #[zI 0,zI 0,zS,zI 0] 31)).alloc (.map #[] 0)).alloc (.map #[] 0)).alloc (.map #[] 0)).alloc (.cells #[zF bS S.length S.length,.map (some (w.heap.size+1)),.map (some (w.heap.size+1+1)),.map (some (w.heap.size+1+1+1)),zN,zI 0,zI 0,zS,zI 0] 178)) B ⟨w.heap.size+1+1+1+1,bS,w.heap.size+1,w.heap.size+1+1,w.heap.size+1+1+1,pv⟩ S w.heap.size 1:=by
 have D:zW w (((((w.alloc (.cells #[zI 0,zI 0,zS,zI 0] 31)).alloc (.map #[] 0)).alloc (.map #[] 0)).alloc (.map #[] 0)).alloc (.cells #[zF bS S.length S.length,.map (some (w.heap.size+1)),.map (some (w.heap.size+1+1)),.map (some (w.heap.size+1+1+1)),zN,zI 0,zI 0,zS,zI 0] 178)):=
  ((((zB _).alloc (by simp<;>omega) _).alloc (by simp<;>omega) _).alloc (by simp<;>omega) _).alloc (by simp<;>omega) _
 have I:=xF w (.cells #[zI 0,zI 0,zS,zI 0] 31);refine⟨qap _ _ _ (by simp<;>omega),?_,⟨#[],0,?_,rfl⟩,⟨#[],0,?_,rfl⟩,⟨#[],0,?_,rfl⟩,?_,?_,?_,D.mono z,?_,fun k J=>D.block k J⟩
 ·refine SrcAt.kept (F:=⟨w.heap.size+1+1+1+1,bS,w.heap.size+1,w.heap.size+1+1,w.heap.size+1+1+1,pv⟩) ⟨y.blk,y.name,y.slice,y.row⟩ (by obtain⟨cs,fz,O⟩:=y.blk;exact D.block _ (ya.1 O).1) (fun i s k T U=>by obtain⟨cur,O⟩:=qac (y.row i s T) k U;exact D.block _ (ya.1 O).1)
 ·exact(xI _ _ (by simp<;>omega)).trans ((xI _ _ (by simp<;>omega)).trans ((xI _ _ (by simp<;>omega)).trans (qap (w.alloc _) _ _ (by simp<;>omega))))
 ·exact(xI _ _ (by simp<;>omega)).trans ((xI _ _ (by simp<;>omega)).trans (qap ((w.alloc _).alloc _) _ _ (by simp<;>omega)))
 ·exact(xI _ _ (by simp<;>omega)).trans (qap (((w.alloc _).alloc _).alloc _) _ _ (by simp<;>omega))
 ·exact(xI _ _ (by simp<;>omega)).trans ((xI _ _ (by simp<;>omega)).trans ((xI _ _ (by simp<;>omega)).trans ((xI _ _ (by simp<;>omega)).trans I)))
 ·exact⟨by simp only;omega,by simp only;omega,by simp only;omega,by simp only;omega,z⟩
 ·exact⟨by simp only;omega,by simp only;omega,by simp only;omega,by simp only;omega⟩
 ·exact⟨by simp only;omega,by simp only;omega,yg _,D.size⟩
theorem qhg{g:Nat}{t:TypeId}{u0 u1 u2 u3:Value}(h:w.heap[g]?=zK #[u0,u1,u2,u3] t)(v0 v1 v2 v3:Value) :
  ((((w.setCell (zO g 0) v0).setCell (zO g 1) v1).setCell (zO g 2) v2).setCell (zO g 3) v3).heap[g]?=zK #[v0,v1,v2,v3] t:=
 qhu (t:=t) [v0,v1,v2,v3] w 0 [] [u0,u1,u2,u3] h rfl rfl
theorem qeg:(31:TypeId)≠178:=by decide
theorem qdm:(31:TypeId)≠173:=by decide
theorem qfk:(31:TypeId)≠229:=by decide
theorem qex:(31:TypeId)≠205:=by decide
theorem qga:(31:TypeId)≠3:=by decide
theorem SvAt.other(h:SvAt w B F S vv M s){k:Nat}{cs:Array Value}{t:TypeId}{fz:Nat×Nat}(D:w.heap[k]?=some (.cells cs t fz))(I:t≠178)(J:t≠173)(O:t≠229)(T:t≠205)(U:t≠3)(j:Nat)(v:Value):SvAt (w.setCell (zO k j) v) B F S vv M s:=
 h.kept (h.se.other D I J O j v) fun i V y z=>xK _ _ _ _ fun e=>by
  subst e;rcases y _ _ _ D with q|q
  ·exact T q
  ·exact U q
theorem SvAt.fault4(h:SvAt w B F S vv M s){g:Nat}{u0 u1 u2 u3:Value}(y:w.heap[g]?=zK #[u0,u1,u2,u3] 31)(v0 v1 v2 v3:Value) :
  SvAt ((((w.setCell (zO g 0) v0).setCell (zO g 1) v1).setCell (zO g 2) v2).setCell (zO g 3) v3) B F S vv M s:=by
 have z:(w.setCell (zO g 0) v0).heap[g]?=_:=xG _ _ _ _ _ _ y;have D:((w.setCell (zO g 0) v0).setCell (zO g 1) v1).heap[g]?=_:=xG _ _ _ _ _ _ z;have I:(((w.setCell (zO g 0) v0).setCell (zO g 1) v1).setCell (zO g 2) v2).heap[g]?=_:=xG _ _ _ _ _ _ D;exact(((h.other y qeg qdm qfk qex qga 0 v0).other z qeg qdm qfk qex qga 1 v1).other D qeg qdm qfk qex qga 2 v2).other I qeg qdm qfk qex qga 3 v3
def zdu(w w':World):Prop:=∀(k:Nat) (cs:Array Value) (t:TypeId) (fz:Nat×Nat),w.heap[k]?=some (.cells cs t fz)->t≠205->t≠3->w'.heap[k]?=w.heap[k]?
structure Lkj(w wr:World)(B:Nat)(F:Fix)(S:List Src)(vv:Value)(M:List Nat)(s:Sr)(R E:Nat):Prop where
 sv:SvAt wr B F S vv M s
 res:wr.heap[R]?=zK #[zI 0,zI 0,zS,zI 0] 31
 ent:wr.heap[E]?=zK (qao (0,Sx.start)) 180
 below:Below B w wr
 le:B<=R
 old:w.heap.size<=F.g/\w.heap.size<=R
 kp:zdu w wr
theorem Lkj.turn{w':World}{vv':Value}{M':List Nat}{s':Sr}(h:Lkj w wr B F S vv M s R E)(y:SvAt w' B F S vv' M' s')(z:Cuv B F wr w'):Lkj w w' B F S vv' M' s' R E:=
 ⟨y,(z.keep R _ _ _ h.res (qae h.res h.sv.se.blk qeg) qex qga).trans h.res,(z.keep E _ _ _ h.ent (qae h.ent h.sv.se.blk qb6) (by decide) (by decide)).trans h.ent,h.below.trans z.below,h.le,h.old,fun k cs t fz D I J=>(z.keep k cs t fz ((h.kp k cs t fz D I J).trans D) (by have:=(ya.1 D).1;have:=h.old.1;omega) I J).trans (h.kp k cs t fz D I J)⟩
theorem Lkj.set(h:Lkj w wr B F S vv M s R E)(v0 v1 v2 v3:Value) :
  ((((wr.setCell (zO R 0) v0).setCell (zO R 1) v1).setCell (zO R 2) v2).setCell (zO R 3) v3).heap[R]?=zK #[v0,v1,v2,v3] 31/\Below B w ((((wr.setCell (zO R 0) v0).setCell (zO R 1) v1).setCell (zO R 2) v2).setCell (zO R 3) v3)/\SvAt ((((wr.setCell (zO R 0) v0).setCell (zO R 1) v1).setCell (zO R 2) v2).setCell (zO R 3) v3) B F S vv M s/\zdu w ((((wr.setCell (zO R 0) v0).setCell (zO R 1) v1).setCell (zO R 2) v2).setCell (zO R 3) v3):=
 ⟨qhg h.res _ _ _ _,(((h.below.setCell (p:=zO R 0) h.le v0).setCell (p:=zO R 1) h.le v1).setCell (p:=zO R 2) h.le v2).setCell (p:=zO R 3) h.le v3,h.sv.fault4 h.res _ _ _ _,fun k cs t fz z D I=>by
  have y:k≠R:=by have:=(ya.1 z).1;have:=h.old.2;omega
  exact(xK _ _ _ _ y).trans ((xK _ _ _ _ y).trans ((xK _ _ _ _ y).trans ((xK _ _ _ _ y).trans (h.kp k cs t fz z D I))))⟩
theorem zcb(HB:qhp)(S:List Src)(hS:SrcsOk S)(Hn:ThrC S 258)(w:World)(B bS:Nat)(pv:Nat->Value)(len:Nat)(D:SrcAt w B ⟨0,bS,0,0,0,pv⟩ S)(hB:B<=w.heap.size)(ht:TabB B w) :
  zC 45 #[zF bS S.length S.length,zI len] w fun ed w'=>(∃v,ed=.returned (.tuple #[v,qnt (qew S len).2])/\((qew S len).2.code=0->∃F M s,SvAt w' B F S v M s/\s.vis=(qew S len).1))/\Below B w w'/\zdu w w':=by
 have hL:=q8z D hB;have HT:=(show Hid (TabB B w)from ht);have V:=(show Hid (B<=w.heap.size)from hB);have Hb:1<=S.length:=hS.few.1;have hs:(S.length:Int)<=7:=by have:=hS.few.2;omega
 obtain⟨r,hr⟩:∃r,r=qew S len:=⟨_,rfl⟩;rw[<-hr];have HR:=zH hr;have ho:=fun(t:TypeId) (w:World)=>run_makeMap (P:=prog) t w;clear D hB ht hr;go_enter func45,ntmps45
 go_wp2_with fail
 obtain⟨F,hF⟩:∃F:Fix,F=⟨w.heap.size+1+1+1+1,bS,w.heap.size+1,w.heap.size+1+1,w.heap.size+1+1+1,pv⟩:=⟨_,rfl⟩;rw[<-hF]at hL;have eg:w.heap.size+1+1+1+1=F.g:=by rw[hF]
 have eS:F.bS=bS:=by rw[hF]
 have HL:=zH hL;clear hL hF;generalize World.alloc _ (Obj.cells _ 178)=w1 at HL |-;rw[eg];clear eg;generalize w.heap.size=R at HL |-;have X:=fun w=>zaq w;have est:qar Sx.start=.agg #[zJ 1,zS,zS,zI 0,zI 0,.bool false,.bool false,zI 0,zI 0,zI 0]:=rfl;rw[est]at X;have Ho:=zH X;have hc:Hid (∀w5,SvAt w5 B F S (zN) [] Sr.zero->TabB B w5->zC 75 #[zP F.g,.agg #[zI 0,zJ 1,zS,zS,zI 0,zI 0,.bool false,.bool false,zI 0,zI 0,zI 0]] w5 fun ed w'=>(∃r,ed=.returned r)/\(∃vv' ext,SvAt w' B F S vv' ([]++ext) (qev S 258 Sr.zero (0,Sx.start)))/\Cuv B F w5 w'):=fun w5 h5 t5=>Hn w5 B F _ [] Sr.zero (0,Sx.start) h5 (qus hS) (by show 258<=0+258;omega) t5;obtain⟨s1,Y⟩:∃s1,s1=qev S 258 Sr.zero (0,Sx.start):=⟨_,rfl⟩;have HI:=zH (qo7 S 258 Sr.zero (0,Sx.start) (qus hS) (by show 258<=0+258;omega));have J:=Pl.qqv S len;rw[<-HR.out,<-Y]at J;rw[<-Y]at hc HI;have Hc:=zH J;clear X est Y HR J ho;go_loopw [7] (fun i wr=>∃n:Nat,1<=n/\n<=S.length/\i=zI n/\Hid (Lki w wr B F S R n)) (fun i _=>S.length - (intOf i).toNat)
 case atStart=>exact⟨1,yg _,Hb,rfl,HL.out⟩
 case round=>
  obtain⟨n,He,hp,rfl,HK⟩:=hrel;clear HL;have T:B<=wr.heap.size:=yh V.out HK.out.below.size;by_cases Hf:n<S.length
  ·have Z:(n:Int)<(S.length:Int):=by omega
   obtain⟨src,D⟩:∃src,S[n]?=some src:=⟨S[n],yc Hf⟩;have b1:wr.cell? (zO F.g 1)=some (.map (some F.bp)):=qaa HK.out.blk 1 _ rfl;have b2:wr.cell? (zO bS (n*2))=some (.string ⟨src.name.toArray⟩):=by
    have:=HK.out.src.name n src D;rw[eS]at this;exact this
   obtain⟨w3,Hp,hg,hq⟩:=(HK.out.drew T).put hS He D;have Hq:=zH hg;clear hg hq D T;go_wp2_with fail
   go_region
   all_goals
    go_wp2_with fail
    go_roundw
    case rel=>exact⟨n+1,by omega,by omega,by go_num,Hq.out⟩
    case measure=>simp[intOf];omega
  ·have Z:¬(n:Int)<(S.length:Int):=by omega
   have Hg:S.length<=n:=by omega
   have HN:=zH Hg;clear Hf Hg He hp;go_wp2_with fail
   refine(Ho.out _).mono ?_;rintro ed w2 ⟨rfl,hi⟩;have ha:Hid (Lki w w2 B F S R n):=by rw[<-hi];exact HK.out.next (zB _) T
   have Hi:B<=w2.heap.size:=yh V.out ha.out.below.size;have Hr:=(show Hid (B<=w2.heap.size)from Hi);clear hi HK T Hi;go_wp2_with fail
   have I:=zH (ha.out.next (zB (.cells (qao (0,Sx.start)) 180)) Hr.out);have U:Hid (Lkj w (w2.alloc (.cells (qao (0,Sx.start)) 180)) B F S (zN) [] Sr.zero R w2.heap.size):=⟨I.out.start HN.out,I.out.res,xF _ _,I.out.below,I.out.le.2.2.2.2,⟨I.out.old.1,I.out.old.2.2.1⟩,fun k _ _ _ hk _ _=>I.out.kp k (ya.1 hk).1⟩;refine(hc.out _ U.out.sv (TabB.kept HT.out U.out.below)).mono ?_;rintro ed w6 ⟨⟨r6,rfl⟩,⟨vv',ext,hj⟩,O⟩;have z:=zH (U.out.turn hj O);clear hj O I U ha;generalize w2.heap.size=E at z |-;by_cases h0:s1.fault.code=0
   rotate_left
   ·have Hj:((s1.fault.code:Int)==0)=false:=by rw[yf];omega
    have Hk:((s1.fault.code:Int) != 0)=true:=by rw[bne_iff_ne];omega
    have HX:Hid (r=([],s1.fault)):=by show _=_;rw[Hc.out,if_pos h0]
    have H0:=zH h0;have b5:w6.cell? (zO F.g 5)=some (zI (s1.fault.code:Nat)):=z.out.sv.se.cell 5 _ rfl;have b6:w6.cell? (zO F.g 6)=some (zI s1.fault.kind):=z.out.sv.se.cell 6 _ rfl;have b7:w6.cell? (zO F.g 7)=some (.string ⟨s1.fault.place.toArray⟩):=z.out.sv.se.cell 7 _ rfl;have b8:w6.cell? (zO F.g 8)=some (zI (s1.fault.pos:Nat)):=z.out.sv.se.cell 8 _ rfl;have x0:w6.cell? (zO R 0)=some (zI 0):=qaa z.out.res 0 _ rfl;have x1:w6.cell? (zO R 1)=some (zI 0):=qaa z.out.res 1 _ rfl;have x2:w6.cell? (zO R 2)=some (zS):=qaa z.out.res 2 _ rfl;have x3:w6.cell? (zO R 3)=some (zI 0):=qaa z.out.res 3 _ rfl;have z0:w6.frozen? (zO R 0)=false:=by simp[World.frozen?,z.out.res]
    have z1:w6.frozen? (zO R 1)=false:=by simp[World.frozen?,z.out.res]
    have z2:w6.frozen? (zO R 2)=false:=by simp[World.frozen?,z.out.res]
    have z3:w6.frozen? (zO R 3)=false:=by simp[World.frozen?,z.out.res]
    clear h0;go_wp2_with fail
    go_region
    all_goals
     go_wp2_with fail
     have hf:=z.out.set (zI (s1.fault.code:Nat)) (zI s1.fault.kind) (.string ⟨s1.fault.place.toArray⟩) (zI (s1.fault.pos:Nat));refine qfb results45 rfl R (zN) _ rfl rfl hf.1 _ underlying31 rfl (by kernel_rfl) ?_;exact⟨⟨_,by rw[HX.out];rfl,fun q=>absurd q (by rw[HX.out];exact H0.out)⟩,hf.2.1.drew,hf.2.2.2⟩
   ·have Hj:((s1.fault.code:Int)==0)=true:=by rw[h0];rfl
    have b5:w6.cell? (zO F.g 5)=some (zI (s1.fault.code:Nat)):=z.out.sv.se.cell 5 _ rfl;have he:=qct z.out.ent;have een:qao (0,Sx.start)=#[zI 0,zJ 1,zS,zS,zI 0,zI 0,.bool false,.bool false,zI 0,zI 0,zI 0]:=rfl;rw[een]at he;have m0:=he 0 _ rfl;have m1:=he 1 _ rfl;have m2:=he 2 _ rfl;have m3:=he 3 _ rfl;have m4:=he 4 _ rfl;have m5:=he 5 _ rfl;have m6:=he 6 _ rfl;have m7:=he 7 _ rfl;have m8:=he 8 _ rfl;have m9:=he 9 _ rfl;have m10:=he 10 _ rfl;have hl:B<=w6.heap.size:=yh V.out z.out.below.size;have Hl:=qy3 HB S hS w6 B F vv' s1 (0,Sx.start) len z.out.sv.se HI.out.1.ends qmi Hb hl (TabB.kept HT.out z.out.below);have Ha:Hid (zC 76 #[zP F.g,.agg #[zI 0,zJ 1,zS,zS,zI 0,zI 0,.bool false,.bool false,zI 0,zI 0,zI 0],zI len] w6 fun ed w'=>(∃r,ed=.returned r)/\SeAt w' B F S vv' (Pl.qh0 S s1 (0,Sx.start) len)/\Cue B F w6 w'):=Hl;have hb:=Pl.q19 S s1 (0,Sx.start) len HI.out.1.ends qmi;have J:r=if(Pl.qh0 S s1 (0,Sx.start) len).fault.code≠0 then([],(Pl.qh0 S s1 (0,Sx.start) len).fault)else((Pl.qh0 S s1 (0,Sx.start) len).vis,Ft.none):=by rw[Hc.out,if_neg (fun q=>q h0)]
    clear Hl he een h0 hl;generalize Pl.qh0 S s1 (0,Sx.start) len=s2 at Ha hb J;have hm:=zH J;have Hm:=zH hb;clear J hb;go_wp2_with fail
    refine Ha.out.mono ?_;rintro ed w7 ⟨⟨r7,rfl⟩,hn,O⟩;have y:=zH (z.out.turn (z.out.sv.turn hn O Hm.out.1 Hm.out.2) (Cuv.of_cue z.out.sv.se O));clear hn O z Ha b5 m0 m1 m2 m3 m4 m5 m6 m7 m8 m9 m10 Hj;by_cases h0:s2.fault.code=0
    rotate_left
    ·have Hk:((s2.fault.code:Int) != 0)=true:=by rw[bne_iff_ne];omega
     have HX:Hid (r=([],s2.fault)):=by show _=_;rw[hm.out,if_pos h0]
     have H0:=zH h0;have b5:w7.cell? (zO F.g 5)=some (zI (s2.fault.code:Nat)):=y.out.sv.se.cell 5 _ rfl;have b6:w7.cell? (zO F.g 6)=some (zI s2.fault.kind):=y.out.sv.se.cell 6 _ rfl;have b7:w7.cell? (zO F.g 7)=some (.string ⟨s2.fault.place.toArray⟩):=y.out.sv.se.cell 7 _ rfl;have b8:w7.cell? (zO F.g 8)=some (zI (s2.fault.pos:Nat)):=y.out.sv.se.cell 8 _ rfl;have x0:w7.cell? (zO R 0)=some (zI 0):=qaa y.out.res 0 _ rfl;have x1:w7.cell? (zO R 1)=some (zI 0):=qaa y.out.res 1 _ rfl;have x2:w7.cell? (zO R 2)=some (zS):=qaa y.out.res 2 _ rfl;have x3:w7.cell? (zO R 3)=some (zI 0):=qaa y.out.res 3 _ rfl;have z0:w7.frozen? (zO R 0)=false:=by simp[World.frozen?,y.out.res]
     have z1:w7.frozen? (zO R 1)=false:=by simp[World.frozen?,y.out.res]
     have z2:w7.frozen? (zO R 2)=false:=by simp[World.frozen?,y.out.res]
     have z3:w7.frozen? (zO R 3)=false:=by simp[World.frozen?,y.out.res]
     clear h0;go_wp2_with fail
     go_region
     all_goals
      go_wp2_with fail
      have hf:=y.out.set (zI (s2.fault.code:Nat)) (zI s2.fault.kind) (.string ⟨s2.fault.place.toArray⟩) (zI (s2.fault.pos:Nat));refine qfb results45 rfl R (zN) _ rfl rfl hf.1 _ underlying31 rfl (by kernel_rfl) ?_;exact⟨⟨_,by rw[HX.out];rfl,fun q=>absurd q (by rw[HX.out];exact H0.out)⟩,hf.2.1.drew,hf.2.2.2⟩
    ·have Hk:((s2.fault.code:Int) != 0)=false:=by rw[h0];rfl
     have HX:Hid (r=(s2.vis,Ft.none)):=by show _=_;rw[hm.out,if_neg (fun q=>q h0)]
     have b4:w7.cell? (zO F.g 4)=some vv':=y.out.sv.se.cell 4 _ rfl;have b5:w7.cell? (zO F.g 5)=some (zI (s2.fault.code:Nat)):=y.out.sv.se.cell 5 _ rfl;have b6:w7.cell? (zO F.g 6)=some (zI s2.fault.kind):=y.out.sv.se.cell 6 _ rfl;have b7:w7.cell? (zO F.g 7)=some (.string ⟨s2.fault.place.toArray⟩):=y.out.sv.se.cell 7 _ rfl;have b8:w7.cell? (zO F.g 8)=some (zI (s2.fault.pos:Nat)):=y.out.sv.se.cell 8 _ rfl;have x0:w7.cell? (zO R 0)=some (zI 0):=qaa y.out.res 0 _ rfl;have x1:w7.cell? (zO R 1)=some (zI 0):=qaa y.out.res 1 _ rfl;have x2:w7.cell? (zO R 2)=some (zS):=qaa y.out.res 2 _ rfl;have x3:w7.cell? (zO R 3)=some (zI 0):=qaa y.out.res 3 _ rfl;have z0:w7.frozen? (zO R 0)=false:=by simp[World.frozen?,y.out.res]
     have z1:w7.frozen? (zO R 1)=false:=by simp[World.frozen?,y.out.res]
     have z2:w7.frozen? (zO R 2)=false:=by simp[World.frozen?,y.out.res]
     have z3:w7.frozen? (zO R 3)=false:=by simp[World.frozen?,y.out.res]
     clear h0;go_wp2_with fail
     have hf:=y.out.set (zI 0) (zI 0) (zS) (zI 0);refine qfb results45 rfl R vv' _ rfl rfl hf.1 _ underlying31 rfl (by kernel_rfl) ?_;exact⟨⟨_,by rw[HX.out];rfl,fun _=>⟨F,_,s2,hf.2.2.1,by rw[HX.out]⟩⟩,hf.2.1,hf.2.2.2⟩
theorem qna{P:Program}(w:World){ops:Array Oper}{rest:List Oper}{o:Oper}{a:Act}{Q:Exit->Act->World->Prop}
  (D:o.guard=none) (s x:Operand) (t:TypeId) (I:o.op=.call { callee:=.builtin .append,args:=#[s,x],argTypes:=#[t,t] }) (sv xv v':Value) (w':World) (J:a.eval s=sv) (O:a.eval x=xv)
  (y:(Builtin.append_ #[t,t] o.type #[sv,xv]).run P w=.ok v' w') (hK:wpList P ops Q rest (a.put o.dst v') w'):wpList P ops Q (o::rest) a w:=by
 refine wpList_plain D fun K z=>?_;unfold Oper.wp execOp;simp only[I,resolve,invoke,builtin,Sem.run_bind,Sem.run_pure,Result.andThen_ok,List.map_toArray,List.map_cons,List.map_nil,J,O,y];exact z _ _ hK
theorem qxx:(prog.info? 38).map (fun i=>(i.zero,i.size,i.bytes))=some (some (.agg #[zS,zS]),2,32):=by kernel_rfl
theorem q1i:(prog.info? 173).map (fun i=>(i.zero,i.size,i.bytes))=some (some (.agg #[zS,zN]),2,40):=by kernel_rfl
def qiz(L:List (zT×zT)):List Value:=L.flatMap fun x=>[.string x.1,.string x.2]
theorem qqn(L:List (zT×zT)):(qiz L).length=L.length*2:=by
 induction L with
 |nil=>rfl
 |cons x L ih=>show(qiz L).length+2=_;rw[ih,yK];omega
theorem qkr:∀(L:List (zT×zT)) (k:Nat) (x:zT×zT),L[k]?=some x->(qiz L)[k*2]?=some (.string x.1)/\(qiz L)[k*2+1]?=some (.string x.2)
 |[],k,x,h=>by simp at h
 |y::L,0,x,h=>by simp at h;subst h;exact⟨rfl,rfl⟩
 |y::L,k+1,x,h=>by
   have:=qkr L k x (by simpa using h);rw[show(k+1)*2=k*2+1+1 by omega,show k*2+1+1+1=(k*2+1)+1+1 by omega];exact this
theorem q45{w:World}{b o:Nat}{L:List (zT×zT)}(h:PoAt w b o L):∀j v,(qiz L)[j]?=some v->w.cell? (((zO b o):Addr).add j)=some v:=by
 intro j v y;rw[show((zO b o):Addr).add j=(zO b (o+j)) by unfold Addr.add;split<;>simp_all]
 have z:=(yb.1 y).1;rw[qqn]at z;obtain⟨x,D⟩:∃x,L[j / 2]?=some x:=⟨L[j / 2]'(by omega),yc (by omega)⟩;obtain⟨I,J⟩:=qkr L (j / 2) x D;rcases(show j=j / 2*2\/j=j / 2*2+1 by omega)with e|e
 ·rw[e]at y |-
  rw[I]at y;obtain rfl:=yk y;exact h.name _ x D
 ·rw[e]at y |-
  rw[J]at y;obtain rfl:=yk y;exact h.text _ x D
theorem all_append(T:zT)(v:Value)(L:List (zT×zT))(w w1:World)(b1:Nat)(hA:qk5 w v L)(hL:L.length<=6)(hb:zW w w1)(h0:w1.cell? (zO b1 0)=some (zS))(h1:w1.cell? (zO b1 1)=some (.string T)) :
  ∃b cap w',(∀ty,(Builtin.append_ #[22,22] ty #[zF b1 1 1,v]).run prog w1=.ok (zF b (L.length+1) cap) w')/\PsAt w' b ((⟨#[]⟩,T)::L)/\zW w1 w':=by
 obtain⟨i0,D,O,J,U⟩:=info_parts qxx;obtain⟨ao,cap,rfl,Y,Z,V⟩:=hA;by_cases hn:L=[]
 ·subst hn
  refine⟨b1,1,w1,fun ty=>?_,⟨fun k x hx=>?_,fun k x hx=>?_⟩,xL _ _⟩
  ·cases ao with
   |none=>simp[Builtin.append_,run_underlying underlying22,sizeOf,typeInfo,D,Builtin.lenOf,Builtin.firstCells,storeCells]
   |some a=>simp[Builtin.append_,run_underlying underlying22,sizeOf,typeInfo,D,Builtin.lenOf,Builtin.firstCells,storeCells,loadCells,loadCellsFrom]
  ·cases k with
   |zero=>simp at hx;subst hx;exact h0
   |succ k=>simp at hx
  ·cases k with
   |zero=>simp at hx;subst hx;exact h1
   |succ k=>simp at hx
 ·obtain⟨b,o,rfl,z⟩:=V hn
  have X:0<L.length:=List.length_pos_iff.2 hn;have I:PoAt w1 b o L:=⟨fun k x hx=>(hb.cell (p:=zO b (o+k*2)) (xO _ _ (z.name k x hx))).trans (z.name k x hx),fun k x hx=>(hb.cell (p:=zO b (o+k*2+1)) (xO _ _ (z.text k x hx))).trans (z.text k x hx)⟩;have hg:=fun ty=>run_append_grow (P:=prog) w1 22 ty 38 i0 _ underlying22 D O (zO b1 0) 1 1 [zS,.string T] (by rw[J];rfl) (fun j v hj=>by
    match j,hj with
    |0,hj=>simp at hj;subst hj;simpa [Addr.add]using h0
    |1,hj=>simp at hj;subst hj;simpa [Addr.add]using h1) (zO b o) L.length cap (qiz L) (by rw[J];exact qqn L) (q45 I) (by omega) (by omega) (by
      rw[U];have:Builtin.nextslicecap (1+L.length) 1<=7:=by
       rcases(show L.length=1\/L.length=2\/L.length=3\/L.length=4\/L.length=5\/L.length=6 by omega)with e|e|e|e|e|e<;>rw[e]<;>decide
      omega)
  refine⟨w1.heap.size,_,_,fun ty=>by rw[Nat.add_comm L.length 1];exact hg ty,?_,?_⟩
  ·have y:∀j v,(qiz ((⟨#[]⟩,T)::L))[j]?=some v->(w1.drew.alloc (.cells ([Value.string ⟨#[]⟩,.string T].toArray++(qiz L).toArray++Builtin.zeroCells (Value.agg #[zS,zS]).cells (grownCap w1 (1+L.length) 1 38 - (1+L.length))) 38)).cell? (zO w1.heap.size j)=some v:=fun j v hj=>by
    refine qaa (xF w1.drew _) j v ?_;rw[Array.toList_append,Array.toList_append];rw[yr (by have:=(yb.1 hj).1;simpa [qiz]using this)];exact hj
   refine⟨fun k x hx=>y _ _ (qkr _ k x hx).1,fun k x hx=>y _ _ (qkr _ k x hx).2⟩
  ·exact(xL _ _).drew.alloc (yg _) _
theorem q0l(n:Nat)(J:n<=7)(w:World):(Instr.makeSlice 115 (zI (n:Int)) (zI (n:Int))).run prog w=.ok (zF w.heap.size n n) (w.alloc (.cells (madeCells #[zS,zN] (n*2)) 173)):=by
 obtain⟨i0,y,z,D,I⟩:=info_parts q1i;have O:=run_make (P:=prog) w 115 173 i0 _ underlying115 y z .i64 .i64 n n (by omega) (Int.le_refl _) (by rw[I];omega) (by omega);have e:(Value.agg #[zS,zN]).cells=#[zS,zN]:=rfl;rw[D,e]at O;simpa using O
end
end Go.Proofs.YtfkhljmiehdgmaaGreatDoor
