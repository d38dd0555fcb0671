/-
  Steps of the proof.
-/
import Derived.Test.YtfkhljmiehdgmaaGreatDoorCuAH
import Derived.Lib.BufferWrite
import Derived.OwnWalk
import Derived.Lib.ItoaNum
import Derived.Lib.Small
import Derived.Lib.IndexMore
set_option maxRecDepth 100000
set_option maxHeartbeats 40000000
namespace Go.Proofs.YtfkhljmiehdgmaaGreatDoor
open Go.RowKit Go.Proofs.Tryz Pl
variable{w w0 w':World}{B g:Nat}{c:Ct}{vp vo:Value}
theorem CtAt.delims{t:zU}(h:CtAt w B g t c vp vo)(op cl:zU) :
  CtTo w ((w.setCell (zO g 1) (bs op)).setCell (zO g 2) (bs cl)) B g t { c with op:=op,cl:=cl }:=by
 have y:∀k,k≠g->((w.setCell (zO g 1) (bs op)).setCell (zO g 2) (bs cl)).heap[k]?=w.heap[k]?:=fun k z=>(xK _ _ _ _ z).trans (xK _ _ _ _ z);refine⟨⟨vp,vo,?_,?_,?_,h.le⟩,?_,fun k cs ty fz z D I J=>y k D⟩
 ·rw[xG _ _ _ _ _ _ (xG _ _ _ _ _ _ h.blk)];rfl
 ·refine qab h.parts fun k z=>y k ?_
  obtain⟨cur,O⟩:=qac h.parts k z;exact fun e=>qae h.blk O qf0 e.symm
 ·refine qab h.opened fun k z=>y k ?_
  obtain⟨cur,O⟩:=qac h.opened k z;exact fun e=>qae h.blk O qic e.symm
 ·exact((xL _ _).setCell (p:=zO g 1) h.le _).setCell (p:=zO g 2) h.le _
theorem CtTo.after{t:zU}(y:Cur B g w w0)(h:CtTo w0 w' B g t c):CtTo w w' B g t c:=⟨h.ex,y.trans h.cur⟩
theorem CtAt.pushAt{t:zU}{vo':Value}(h:CtAt w B g t c vp vo)(z:zW w w0)(n:Nat)(y:w'.ownsRow B 3 1 vo' (c.opened.length+1) (qb0 c.opened++[zI n]))(D:w0.grownBy w' vo.ownBlock) :
  CtAt (w'.setCell (zO g 4) vo') B g t { c with opened:=c.opened++[n] } vp vo'/\Cur B g w (w'.setCell (zO g 4) vo')/\∀k x,w0.heap[k]?=some x->w.heap.size<=k->(w'.setCell (zO g 4) vo').heap[k]?=some x:=by
 obtain⟨J,O⟩:=(h.below z).push n y D;refine⟨J,(Cur.of_below z (yh h.le (yj h.lt))).trans O,fun k x T I=>?_⟩;refine(xK _ _ _ _ (by have:=h.lt;simp only;omega)).trans ((D.block k (ya.1 T).1 (fun e=>?_)).trans T);have:=(h.opened.lt k e.symm).2;omega
theorem qz5(w:World)(B g:Nat)(t:zU)(c:Ct)(vp vo:Value)(h:CtAt w B g t c vp vo)(n op cl:zU)(a:Nat) :
  zC 152 #[zP g,qeh ⟨8,0,n,op,cl⟩,zI a] w fun e w'=>e=.returned (zI (0:Nat))/\CtTo w w' B g t { c with op:=op,cl:=cl }:=by
 have b1:=h.two 1 _ rfl;have b2:=h.two 2 _ rfl;have f1:=h.two' 1;have f2:=h.two' 2;have y:B<=w.heap.size:=by have:=h.lt;have:=h.le;omega
 have H:=zH h;clear h;unfold qeh bs at *;go_enter func152,ntmps152
 go_wp2
 go_region
 all_goals
  go_wp2
  go_ret
  have z:=(((xL w.heap.size w).alloc (yg _) (.cells #[zI 8,zI 0,.string ⟨n.toArray⟩,.string ⟨op.toArray⟩,.string ⟨cl.toArray⟩] 274)).alloc (by simp) (.cells #[zI 8,zI a,.string ⟨n.toArray⟩,zI 0] 229)).drew
  first
   |exact⟨rfl,CtTo.after (Cur.of_below z y) (CtAt.delims (CtAt.below H.out z) op cl)⟩
   |exact⟨rfl,CtTo.after (Cur.of_below z y) (CtAt.delims' (CtAt.below H.out z) op cl)⟩
theorem q7g(w:World)(o:Obj)(g:Nat)(h:w.heap.size=g):(w.alloc o).heap[g]?=some o:=by
 subst h;exact xF w o
variable{w:World}{B g:Nat}{c:Ct}
theorem CtAt.mated{gp N capp:Nat}{t:zU}{vo:Value}(h:CtAt w B g t c (zF gp N capp) vo)(m n:Nat)(I:m<c.parts.length) :
  CtAt (w.setCell (zO gp (m*4+3)) (zI n)) B g t { c with parts:=qbd c.parts m n } (zF gp N capp) vo/\Cur B g w (w.setCell (zO gp (m*4+3)) (zI n)):=by
 have y:∀k,k≠gp->(w.setCell (zO gp (m*4+3)) (zI n)).heap[k]?=w.heap[k]?:=fun k J=>xK _ _ _ _ J;obtain⟨cur,O⟩:=qac h.parts gp rfl;have z:=(h.parts.lt gp rfl).1;refine⟨⟨(y g (qae h.blk O qf0)).trans h.blk,?_,?_,h.le⟩,?_,?_⟩
 ·have T:(qbd c.parts m n).length=c.parts.length:=qit _ _ _
  have U:N=c.parts.length:=by
   rcases h.parts.2 with⟨V,_⟩|⟨g',cap',cur',X,_⟩
   ·cases V
   ·injection X
  subst U;show World.ownsRow _ _ _ _ _ (qbd c.parts m n).length (qbp (qbd c.parts m n));rw[T,<-qoh _ _ _ I];exact(h.parts.stored (m*4+3) (zI n)).1
 ·refine qab h.opened fun k J=>y k ?_
  obtain⟨cur',D⟩:=qac h.opened k J;exact fun e=>qae O D qli e.symm
 ·exact(xL _ _).setCell (p:=zO gp (m*4+3)) z _
 ·intro k cs ty fz J Y Z h3
  exact y k (qae J O Z)
theorem CtAt.popped{go capo:Nat}{t:zU}{vp:Value}{M:Nat}(h:CtAt w B g t c vp (zF go M capo))(k:Nat)(I:c.opened.length=k+1) :
  CtAt (w.setCell (zO g 4) (zF go k capo)) B g t { c with opened:=c.opened.dropLast } vp (zF go k capo)/\Cur B g w (w.setCell (zO g 4) (zF go k capo)):=by
 have y:∀k',k'≠g->(w.setCell (zO g 4) (zF go k capo)).heap[k']?=w.heap[k']?:=fun k' z=>xK _ _ _ _ z;have J:M=c.opened.length:=by
  rcases h.opened.2 with⟨O,_⟩|⟨g',cap',cur',T,_⟩
  ·cases O
  ·injection T
 subst J;have U:=qjt h.opened k (by omega);have e1:(qb0 c.opened).take (k*1)=qb0 c.opened.dropLast:=by
  rw[Nat.mul_one,List.dropLast_eq_take,show c.opened.length - 1=k by omega];simp[qb0]
 have e2:c.opened.dropLast.length=k:=by simp;omega
 rw[e1]at U;refine⟨⟨?_,?_,?_,h.le⟩,?_,fun k' cs ty fz z V _ _=>y k' V⟩
 ·rw[xG _ _ _ _ _ _ h.blk];rfl
 ·refine qab h.parts fun k' z=>y k' ?_
  obtain⟨cur',D⟩:=qac h.parts k' z;exact fun e=>qae h.blk D qf0 e.symm
 ·show World.ownsRow _ _ _ _ _ c.opened.dropLast.length (qb0 c.opened.dropLast)
  rw[e2];refine qab U fun k' z=>y k' ?_;obtain⟨cur',D⟩:=qac U k' z;exact fun e=>qae h.blk D qic e.symm
 ·exact(xL _ _).setCell (p:=zO g 4) h.le _
theorem qy6{a b:zU}(h:a≠b):((⟨a.toArray⟩:zT).toList==(⟨b.toArray⟩:zT).toList)=false:=by
 rw[Lib.toList_data,Lib.toList_data];exact yf.2 (by simpa using h)
theorem quh(w:World)(B g:Nat)(t:zU)(c:Ct)(vp vo:Value)(h:CtAt w B g t c vp vo)(n op cl:zU)(a k m:Nat)(J:c.opened.length=k+1)(O:c.opened[k]?=some m)(p:Pt)(T:c.parts[m]?=some p)(y:p.text≠n)(U:c.opened.length<=6) :
  zC 152 #[zP g,qeh ⟨5,0,n,op,cl⟩,zI a] w fun e w'=>e=.returned (zI (6:Nat))/\CtTo w w' B g t c:=by
 have z:m<c.parts.length:=(yb.1 T).1;obtain⟨go,capo,D,_,_⟩:=qai h.opened (by omega);obtain⟨gp,capp,I,_,_⟩:=qai h.parts (by omega);subst D I;have b3:=h.two 3 _ rfl;have b4:=h.two 4 _ rfl;have q4:∀o o',((w.alloc o).alloc o').cell? (zO go k)=some (zI m):=fun o o'=>qcs ((h.alloc o).alloc o').opened k _ (qlu _ _ _ O);have q2:∀o o',((w.alloc o).alloc o').cell? (zO gp (m*4+2))=some (.string ⟨p.text.toArray⟩):=fun o o'=>qcs ((h.alloc o).alloc o').parts _ _ (qeq _ _ _ T 2 _ rfl);have w1:IntKind.i64.wrap (k:Int)=k:=qo4 k (by omega);have d1:(m:Int)<(c.parts.length:Int):=by omega
 have e1:=qy6 y;have H:=zH h;rw[J]at b4;clear h T O;unfold qeh bs;generalize (⟨p.text.toArray⟩:zT)=X at q2 e1;generalize (⟨n.toArray⟩:zT)=Y at e1 |-;generalize V:c.parts.length=N at b3 d1;clear V z U y;go_enter func152,ntmps152
 go_wp2
 go_region
 all_goals
  go_wp2
  go_ret
  exact⟨rfl,H.out.to ((zB _).alloc (by simp) _).drew⟩
theorem zbg(w:World)(B g:Nat)(t:zU)(c:Ct)(vp vo:Value)(h:CtAt w B g t c vp vo)(n op cl:zU)(a k m:Nat)(hk:c.opened.length=k+1)(hm:c.opened[k]?=some m)(p:Pt)(hp:c.parts[m]?=some p)(J:p.text=n)(h6:c.opened.length<=6)(hn:c.parts.length<=4000) :
  zC 152 #[zP g,qeh ⟨5,0,n,op,cl⟩,zI a] w fun e w'=>e=.returned (zI (0:Nat))/\CtTo w w' B g t { c with parts:=qbd c.parts m c.parts.length++[⟨5,a,n,m⟩],opened:=c.opened.dropLast }:=by
 obtain⟨i0,hi,O,T,U⟩:=info_parts qmw;have V:m<c.parts.length:=(yb.1 hp).1;obtain⟨go,capo,X,_,_⟩:=qai h.opened (by omega);obtain⟨gp,capp,Y,_,_⟩:=qai h.parts (by omega);subst X Y J;have b3:=h.two 3 _ rfl;have b4:=h.two 4 _ rfl;have q4:∀o o',((w.alloc o).alloc o').cell? (zO go k)=some (zI m):=fun o o'=>qcs ((h.alloc o).alloc o').opened k _ (qlu _ _ _ hm);have q2:∀o o',((w.alloc o).alloc o').cell? (zO gp (m*4+2))=some (.string ⟨p.text.toArray⟩):=fun o o'=>qcs ((h.alloc o).alloc o').parts _ _ (qeq _ _ _ hp 2 _ rfl);have q3:∀o o',((w.alloc o).alloc o').cell? (zO gp (m*4+3))=some (zI p.mate):=fun o o'=>qcs ((h.alloc o).alloc o').parts _ _ (qeq _ _ _ hp 3 _ rfl);have fq3:∀o o',((w.alloc o).alloc o').frozen? (zO gp (m*4+3))=false:=fun o o'=>World.ownsRow.frozenAt ((h.alloc o).alloc o').parts _;have w1:IntKind.i64.wrap (k:Int)=k:=qo4 k (by omega);have d1:(m:Int)<(c.parts.length:Int):=by omega
 have D:B<=w.heap.size:=by have:=h.lt;have:=h.le;omega
 have Ha:g<w.heap.size:=h.lt;have Z:k+1<=capo:=by
  rcases h.opened.2 with⟨h0,_⟩|⟨g',cap',cur',hv,_,_,hc,_⟩
  ·cases h0
  ·injection hv with _ _ e;omega
 obtain⟨h1,C1⟩:=h.mated m c.parts.length V;obtain⟨h3,C3⟩:=h1.popped k hk;have s4:=h1.two 4 _ rfl;have fs4:=h1.two' 4;have s3:=h3.two 3 _ rfl;have fs3:=h3.two' 3;have s3':∀o o' o'',(((((w.setCell (zO gp (m*4+3)) (zI c.parts.length)).setCell (zO g 4) (zF go k capo)).alloc o).alloc o').alloc o'').cell? (zO g 3)=some (zF gp c.parts.length capp):=fun o o' o''=>(((h3.alloc o).alloc o').alloc o'').cell 3 _ rfl;have hl:(qbd c.parts m c.parts.length).length=c.parts.length:=qit _ _ _;have hb:B<=((w.setCell (zO gp (m*4+3)) (zI c.parts.length)).setCell (zO g 4) (zF go k capo)).heap.size:=by simp;exact D
 have H3:=zH h3;have HR:Hid (World.ownsRow ((w.setCell (zO gp (m*4+3)) (zI c.parts.length)).setCell (zO g 4) (zF go k capo)) B 229 4 (zF gp c.parts.length capp) c.parts.length (qbp (qbd c.parts m c.parts.length))):=by
  have:=h3.parts;change World.ownsRow _ _ _ _ _ (qbd c.parts m c.parts.length).length (qbp (qbd c.parts m c.parts.length))at this;rw[hl]at this;exact this
 have HC:=zH (C1.trans C3);rw[hk]at b4;have s4':∀o o',(((w.setCell (zO gp (m*4+3)) (zI c.parts.length)).alloc o).alloc o').cell? (zO g 4)=some (zF go (k+1) capo):=fun o o'=>by rw[<-hk];exact s4 o o'
 have d2:(k:Int)<=(capo:Int):=by omega
 clear h hp hm hk h1 h3 C1 C3 s4;unfold qeh bs;go_enter func152,ntmps152
 go_wp2
 go_region
 all_goals
  go_wp2
  go_region
  all_goals
   go_wp2
   go_region_law (refine qa6 rfl (.tmp 119) (.tmp 121) 168 rfl B 229 i0 (.agg #[zI 0,zI 0,zS,zI 0]) 4 40 underlying168 hi O T U qkp (by decide) (zF gp c.parts.length capp) c.parts.length _ (by simp[Act.eval]) (World.ownsRow.alloc (World.ownsRow.alloc (World.ownsRow.alloc HR.out _) _) _) (zO _ 0) 1 1 [zI 5,zI a,.string ⟨p.text.toArray⟩,zI m] (by simp[Act.eval]) rfl (qcn _ _ _) (by simp[Value.oneCell']) (by unfold maxLen;omega) (by omega) (by simp;omega) ?_;intro v' w' y I ha;obtain⟨g',cap',rfl,_,_⟩:=qai y (by omega);obtain⟨q5,r5⟩:=CtAt.ahead H3.out (((zB _).alloc (by simp) _).alloc (by simp<;>omega) _).drew.drew.drew (.inl rfl) I 3 _ rfl)
   all_goals
    go_wp2
    go_ret
    have z:World.ownsRow w' B 229 4 (zF g' (c.parts.length+1) cap') ((qbd c.parts m c.parts.length).length+1) (qbp (qbd c.parts m c.parts.length)++qc4 ⟨5,a,p.text,m⟩):=by rw[hl];exact y
    exact⟨rfl,CtTo.after HC.out (CtAt.moreTo H3.out (((zB _).alloc (by simp) _).alloc (by simp<;>omega) _).drew.drew.drew ⟨5,a,p.text,m⟩ z I)⟩
theorem q7h:(prog.info? 5).map (fun i=>(i.zero,i.size,i.bytes))=some (some (zJ 0),1,1):=by kernel_rfl
theorem qvx(s:zT)(w:World)(hs:s.size<=100000) :
  zC 103 #[.string s] w (zR (.string s) w):=by
 by_cases h0:s.size=0
 ·obtain rfl:s=⟨#[]⟩:=xi (Array.eq_empty_of_size_eq_zero h0)
  go_enter func103,ntmps103
  go_wp2
  go_ret
  exact⟨rfl,xL _ _⟩
 have c0:¬(s.size:Int)=0:=by omega
 have c1:(0:Int)<(s.size:Int):=by omega
 obtain⟨i0,hi,Y,U,Z⟩:=info_parts q7h;obtain⟨W1,Ha,I,z⟩:=run_makeSlice_full (P:=prog) w w.heap.size 82 5 i0 (zJ 0) 1 underlying82 hi Y U .i64 .i64 s.size (by omega) (by rw[Z];omega) (by unfold maxLen;omega) (yg _);obtain⟨cur,y,ha⟩:∃cur,W1.heap[w.heap.size]?=zK cur 5/\cur.size=s.size:=by
  rcases I.2 with⟨q,_⟩|⟨g,cap,cur,hv,_,hg,_,_,hs,_⟩
  ·cases q
  ·injection hv with e1 e2 e3
   injection e1 with e1;injection e1 with e1;subst e1 e3;exact⟨cur,hg,by omega⟩
 have O:=fun ty=>Lib.run_copy_row_string (P:=prog) W1 82 9 ty 5 w.heap.size 0 s.size s.size s cur 5 underlying82 (by rw[hi];simp[U]) y (yg _) (by omega);have J:(cur.toList.take 0++Lib.byteCells s.data.toList++cur.toList.drop (0+s.size))=Lib.byteCells s.data.toList:=by
  rw[List.take_zero,xC,List.drop_of_length_le (by simp[ha]),yw]
 rw[J]at O;have D:zW w W1:=⟨z.os,z.tape,z.output,z.size,fun k hk=>z.block k hk (by simp)⟩;have T:(W1.setRow w.heap.size (Lib.byteCells s.data.toList).toArray).heap[w.heap.size]?=zK ((Lib.byteCells s.data.toList).toArray) 5:=setRow_heap W1 _ _ _ _ _ y;have V:zW w (W1.setRow w.heap.size (Lib.byteCells s.data.toList).toArray):=⟨D.os,D.tape,D.output,by simpa using D.size,fun k hk=>by
  refine Eq.trans ?_ (D.block k hk);simp only[World.setRow,Array.getElem?_modify];rw[if_neg (by omega)]⟩
 clear y J I z;generalize W1.setRow w.heap.size (Lib.byteCells s.data.toList).toArray=W2 at O T V;have X:=fun pt it ty hp=>Lib.run_unsafeString_row (P:=prog) W2 pt it ty 5 hp (by kernel_rfl) w.heap.size s.size (by simp[World.shape?,T,Lib.byteCells]) s.data.toList (fun q=>h0 (by have:=yE List.length q;simpa using this)) (by simp) (by simp;omega) (fun j x hx=>by
  have e:((zO w.heap.size 0):Addr).add j=(zO w.heap.size j):=by simp only[Addr.add,xf];split<;>simp_all
  rw[e];exact qaa T j _ (by simp[Lib.byteCells,hx]))
 have hl:(s.data.toList.length:Int)=(s.size:Int):=by simp
 have hS:(⟨s.data.toList.toArray⟩:zT)=s:=by cases s;simp
 simp only[hl,hS]at X;have HB:=zH (Lib.below_freeze V (p:=zO w.heap.size 0) (yg _) s.data.toList.length);have e1:=O 3;have e2:=X 209 3 9 underlying209;clear O X T D V hi Y U Z hl hS;go_enter func103,ntmps103
 go_wp2
 go_ret
 exact⟨rfl,HB.out⟩
theorem qyz(s:zT)(w:World)(y:s.size<=100000) :
  zC 73 #[.string s] w (zR (.string s) w):=by
 go_enter func73,ntmps73
 go_wp2_with (go_at_call 103;refine(qvx s _ y).mono ?_;rintro e w' ⟨rfl,z⟩)
 go_ret
 exact⟨rfl,z⟩
namespace Pl
open Go.Lib
structure Dt where
 kind:Int
 n:Int
 s:zU
 items:List Int
 names:List zU
def Dt.null:Dt:=⟨0,0,[],[],[]⟩
abbrev Pc:=Option Nat
def qbe(D:List Dt):Pc->Dt
 |none=>Dt.null
 |some k=>D.getD k Dt.null
def qd2(k:Nat)(n:Int):Pc:=if n<=k then none else some n.toNat
def qlc(name:zU):List zU->List Int->Option Int
 |a::l,i::m=>if a=name then some i else qlc name l m
 |_,_=>none
def qo1(D:List Dt)(p:Pc)(name:zU):Option Pc:=
 match p with
 |none=>none
 |some k=>if(qbe D (some k)).kind≠5 then none else(qlc name (qbe D (some k)).names (qbe D (some k)).items).map (qd2 k)
def qc7(d:Dt):zU:=if d.kind=1 then formatBool (d.n != 0)else if d.kind=2 then itoa d.n else if d.kind=3 then d.s else[]
def qvb(d:Dt):Bool:=if d.kind=1 then d.n==0 else if d.kind=3 then d.s==[]else if d.kind=4 then d.items.length==0 else if d.kind=2\/d.kind=5 then false else true
def qnb(D:List Dt)(p:Pc):List Pc:=
 match p with
 |none=>[none]
 |some k=>if(qbe D (some k)).kind≠4 then[some k]else(qbe D (some k)).items.map (qd2 k)
def qh6(D:List Dt)(name:zU):List Pc->Pc
 |[]=>none
 |p::l=>match qo1 D p name with
   |some q=>q
   |none=>qh6 D name l
def qq7(D:List Dt):Nat->Pc->zU->Bool->Pc
 |0,p,_,_=>p
 |f+1,p,rest,more=>if more=false then p else qq7 D f ((qo1 D p (cut rest [46]).1).getD none) (cut rest [46]).2.1 (cut rest [46]).2.2
def qe3(D:List Dt)(S:List Pc)(name:zU):Pc:=
 if name=[46]then(S.head?).getD none else qq7 D (name.length+1) (qh6 D (cut name [46]).1 S) (cut name [46]).2.1 (cut name [46]).2.2
structure Wt where
 out:zU
 holes:List (Nat×Nat×Int)
 steps:Nat
structure Ev where
 D:List Dt
 S:List Src
 vis:List (Nat×List Int)
 depth:Int
 room:Int
def Ev.parts(e:Ev)(v:Nat):List Pt:=match e.vis[v]? with
 |some x=>match e.S[x.1]? with
   |some s=>s.parts
   |none=>[]
 |none=>[]
def Ev.marks(e:Ev)(v:Nat):List Int:=match e.vis[v]? with
 |some x=>x.2
 |none=>[]
def Ev.put(e:Ev)(w:Wt)(t:zU):Wt×Int:=
 if 0<=e.room/\e.room - w.out.length<t.length then({ w with out:=w.out++t.take (e.room - w.out.length).toNat },6)else({ w with out:=w.out++t },0)
def Ev.hole(e:Ev)(K:List Pc)(w:Wt)(name:zU)(azs:Int):Wt×Int:=
 if qor azs≠0 then(w,qor azs)else
 ({ (e.put w (qgn azs (qc7 (qbe e.D (qe3 e.D K name))))).1 with holes:=w.holes++[(w.out.length,(e.put w (qgn azs (qc7 (qbe e.D (qe3 e.D K name))))).1.out.length,azs)] },
  (e.put w (qgn azs (qc7 (qbe e.D (qe3 e.D K name))))).2)
def qc9(body:List Pc->Wt->Wt×Int)(K:List Pc):List Pc->Wt->Wt×Int
 |[],w=>(w,0)
 |p::l,w=>if(body (p::K) w).2≠0 then body (p::K) w else qc9 body K l (body (p::K) w).1
def qdo(go:Wt->Wt×Int)(w:Wt):Wt×Int:=if w.steps=5000 then(w,5)else go { w with steps:=w.steps+1 }
def Ev.section(e:Ev)(body:List Pc->Wt->Wt×Int)(K:List Pc)(kind:Nat)(name:zU)(w:Wt):Wt×Int:=
 if qvb (qbe e.D (qe3 e.D K name))≠decide (kind=4)then(w,0)
 else if kind=4 then body K w else qc9 body K (qnb e.D (qe3 e.D K name)) w
def Ev.run(e:Ev):Nat->Nat->Nat->Nat->Int->List Pc->Wt->Wt×Int
 |0,_,_,_,_,_,w=>(w,5)
 |f+1,v,at',tz,qad,K,w=>
   if tz<=at' then(w,0) else qdo (fun w=>
    match (e.parts v)[at']? with
    |none=>(w,0)
    |some p=>
      let mark:=(e.marks v).getD at' 0
      let on:=fun(r:Wt×Int) (next:Nat)=>if r.2≠0 then r else e.run f v next tz qad K r.1
      if p.kind=1 then on (e.put w p.text) (at'+1)
      else if p.kind=2 then on (e.hole K w p.text mark) (at'+1)
      else if p.kind=3\/p.kind=4 then on (e.section (fun K w=>qdo (e.run f v (at'+1) p.mate qad K) w) K p.kind p.text w) (p.mate+1)
      else if p.kind=6 then on (if mark=0 then(w,0)else if e.depth<qad+1 then(w,4)else e.run f mark.toNat 0 (e.parts mark.toNat).length (qad+1) K w) (at'+1)
      else on (w,0) (at'+1)) w
def Ev.page(e:Ev):Wt×Int:=e.run 5002 0 0 (e.parts 0).length 0 [some 0] ⟨[],[],0⟩
theorem qht{go:Wt->Wt×Int}(y:∀w,w.steps<=5000->w.steps<=(go w).1.steps/\(go w).1.steps<=5000)(w:Wt)(h:w.steps<=5000):w.steps<=(qdo go w).1.steps/\(qdo go w).1.steps<=5000:=by
 unfold qdo;split
 ·exact⟨yg _,h⟩
 ·have:=y { w with steps:=w.steps+1 } (by show w.steps+1<=5000;omega)
  have e:({ w with steps:=w.steps+1 }:Wt).steps=w.steps+1:=rfl;omega
theorem qfp(e:Ev)(w:Wt)(t:zU):(e.put w t).1.steps=w.steps:=by unfold Ev.put;split<;>rfl
theorem qtc(e:Ev)(K:List Pc)(w:Wt)(name:zU)(azs:Int):(e.hole K w name azs).1.steps=w.steps:=by
 unfold Ev.hole;split
 ·rfl
 ·exact qfp _ _ _
theorem qot{body:List Pc->Wt->Wt×Int}(y:∀K w,w.steps<=5000->w.steps<=(body K w).1.steps/\(body K w).1.steps<=5000)(K:List Pc):∀(l:List Pc) (w:Wt),w.steps<=5000->w.steps<=(qc9 body K l w).1.steps/\(qc9 body K l w).1.steps<=5000
 |[],w,h=>⟨yg _,h⟩
 |p::l,w,h=>by
   unfold qc9;have z:=y (p::K) w h;split
   ·exact z
   ·have D:=qot y K l _ z.2
    omega
theorem qmj(e:Ev){body:List Pc->Wt->Wt×Int}(y:∀K w,w.steps<=5000->w.steps<=(body K w).1.steps/\(body K w).1.steps<=5000)(K:List Pc)(kind:Nat)(name:zU)(w:Wt)(h:w.steps<=5000) :
  w.steps<=(e.section body K kind name w).1.steps/\(e.section body K kind name w).1.steps<=5000:=by
 unfold Ev.section;split
 ·exact⟨yg _,h⟩
 ·split
  ·exact y K w h
  ·exact qot y K _ w h
theorem qqd(e:Ev):∀(f v at' tz:Nat) (qad:Int) (K:List Pc) (w:Wt),w.steps<=5000->w.steps<=(e.run f v at' tz qad K w).1.steps/\(e.run f v at' tz qad K w).1.steps<=5000:=by
 intro f
 induction f with
 |zero=>intro v at' tz qad K w h;exact⟨yg _,h⟩
 |succ f IH=>
   intro v at' tz qad K w h;unfold Ev.run;split
   ·exact⟨yg _,h⟩
   ·refine qht (fun w h=>?_) w h
    have y:∀(r:Wt×Int) (next:Nat),(w.steps<=r.1.steps/\r.1.steps<=5000)->w.steps<=(if r.2≠0 then r else e.run f v next tz qad K r.1).1.steps/\(if r.2≠0 then r else e.run f v next tz qad K r.1).1.steps<=5000:=by
     intro r next z
     split
     ·exact z
     ·have:=IH v next tz qad K r.1 z.2
      omega
    split
    ·exact⟨yg _,h⟩
    ·rename_i p D
     dsimp only;split
     ·exact y _ _ (by rw[qfp];exact⟨yg _,h⟩)
     split
     ·exact y _ _ (by rw[qtc];exact⟨yg _,h⟩)
     split
     ·exact y _ _ (qmj e (fun K w h=>qht (fun w h=>IH _ _ _ _ _ w h) w h) K _ _ w h)
     split
     ·refine y _ _ ?_
      split
      ·exact⟨yg _,h⟩
      ·split
       ·exact⟨yg _,h⟩
       ·exact IH _ _ _ _ _ w h
     ·exact y (w,0) _ ⟨yg _,h⟩
end Pl
variable{B g:Nat}{w w':World}{v:Value}{f:Func}{a:Act}{p:Tmp}{cs:Array Value}
def qk4(B:Nat)(w:World)(v:Value)(xs:List Value):Prop:=∃ao cap,v=.slice ao xs.length cap/\xs.length<=maxLen/\(xs≠[]->∃k o,ao=some (zO k o)/\k<B/\∀j x,xs[j]?=some x->w.cell? (zO k (o+j))=some x)
theorem qk4.below{xs:List Value}(h:qk4 B w v xs)(z:Below B w w'):qk4 B w' v xs:=by
 obtain⟨ao,cap,D,I,J⟩:=h;refine⟨ao,cap,D,I,fun y=>?_⟩;obtain⟨k,o,O,T,U⟩:=J y;exact⟨k,o,O,T,fun j x V=>(z.cell (p:=zO k (o+j)) T).trans (U j x V)⟩
structure DtAt(B:Nat)(w:World)(b o k:Nat)(x:Dt):Prop where
 kind:w.cell? (zO b (o+k*5))=some (zI x.kind)
 n:w.cell? (zO b (o+k*5+1))=some (zI x.n)
 s:w.cell? (zO b (o+k*5+2))=some (bs x.s)
 rows:∃iv nv,w.cell? (zO b (o+k*5+3))=some iv/\w.cell? (zO b (o+k*5+4))=some nv/\qk4 B w iv (x.items.map (zI))/\qk4 B w nv (x.names.map bs)
theorem DtAt.below{b o k:Nat}{x:Dt}(h:DtAt B w b o k x)(z:Below B w w')(y:b<B):DtAt B w' b o k x:=by
 obtain⟨iv,nv,D,I,J,O⟩:=h.rows;exact⟨(z.cell (p:=zO b (o+k*5)) y).trans h.kind,(z.cell (p:=zO b (o+k*5+1)) y).trans h.n,(z.cell (p:=zO b (o+k*5+2)) y).trans h.s,iv,nv,(z.cell (p:=zO b (o+k*5+3)) y).trans D,(z.cell (p:=zO b (o+k*5+4)) y).trans I,J.below z,O.below z⟩
def DsAt(B:Nat)(w:World)(dv:Value)(D:List Dt):Prop:=∃ao cap,dv=.slice ao D.length cap/\D.length<=cap/\cap<=maxLen/\(D≠[]->∃b o,ao=some (zO b o)/\b<B/\∀k x,D[k]?=some x->DtAt B w b o k x)
theorem DsAt.below{dv:Value}{D:List Dt}(h:DsAt B w dv D)(z:Below B w w'):DsAt B w' dv D:=by
 obtain⟨ao,cap,I,J,O,T⟩:=h;refine⟨ao,cap,I,J,O,fun y=>?_⟩;obtain⟨b,o,k1,k2,k3⟩:=T y;exact⟨b,o,k1,k2,fun k x U=>(k3 k x U).below z k2⟩
def qe0(dv:Value):Pc->Value
 |none=>.agg #[zN,zI 0]
 |some k=>.agg #[dv,zI k]
def qm9(B:Nat)(w:World)(d:Dt)(v:Value):Prop:=∃iv nv,v=.agg #[zI d.kind,zI d.n,bs d.s,iv,nv]/\qk4 B w iv (d.items.map (zI))/\qk4 B w nv (d.names.map bs)
theorem qmk(B:Nat)(w:World):qk4 B w (zN) []:=⟨none,0,rfl,yH _,fun h=>absurd rfl h⟩
theorem q6b(B:Nat)(w:World):qm9 B w Dt.null (.agg #[zI 0,zI 0,zS,zN,zN]):=⟨_,_,rfl,qmk B w,qmk B w⟩
theorem qcf(w:World)(o:Obj):(w.alloc o).heap.size=w.heap.size+1:=by unfold World.alloc;simp only[Array.size_push]
theorem q0t(w:World)(o o':Obj):((w.alloc o).alloc o').heap[w.heap.size+1]?=some o':=by
 have:=xF (w.alloc o) o';rw[qcf]at this;exact this
theorem qkn(w:World)(o o':Obj):zW w ((w.alloc o).alloc o'):=(zB _).alloc (by rw[qcf];omega) _
theorem q95{R:Ending->World->Prop}(y:f.results=#[.cell p 67])(z:a.tmps.getD p undef=zP g)(hd:a.defers=[])(D:w.heap[g]?=zK cs 67)(I:cs.size=5)(J:R (.returned (.agg cs)) w) :
  bodyPost prog f R .ret a w:=
 bodyPost_ret (qbn y _ _ g _ _ z (qaa D) underlying67 rfl (by rw[I];kernel_rfl)) hd J
theorem qtm(ao:Option Addr)(n cap:Nat)(k:Nat)(B:Nat)(w:World)(y:n<=k) :
  zC 215 #[.agg #[.slice ao n cap,zI k]] w fun e w'=>(∃v,e=.returned v/\qm9 B w Dt.null v)/\zW w w':=by
 have z:(n:Int)<=(k:Int):=by omega
 have D:=zH (q6b B w);go_enter func215,ntmps215
 go_wp2
 exact q95 (g:=w.heap.size+1) results215 rfl rfl (q0t w _ _) rfl ⟨⟨_,rfl,D.out⟩,qkn w _ _⟩
theorem zdf(b o n cap:Nat)(k:Nat)(B:Nat)(w:World)(d:Dt)(I:k<n)(J:B<=w.heap.size)(O:b<B)(hd:DtAt B w b o k d) :
  zC 215 #[.agg #[.slice (some (zO b o)) n cap,zI k]] w fun e w'=>(∃v,e=.returned v/\qm9 B w d v)/\zW w w':=by
 have T:¬(n:Int)<=(k:Int):=by omega
 have U:(k:Int)<(n:Int):=by omega
 obtain⟨iv,nv,k3,k4,k5,k6⟩:=hd.rows;have V:Hid (qm9 B w d (.agg #[zI d.kind,zI d.n,bs d.s,iv,nv])):=⟨iv,nv,rfl,k5,k6⟩;have y:∀x x',zW w ((w.alloc x).alloc x'):=fun x x'=>qkn w x x';have c0:∀x x',((w.alloc x).alloc x').cell? (zO b (o+k*5))=some (zI d.kind):=fun x x'=>((y x x').cell (p:=zO b (o+k*5)) (yi O J)).trans hd.kind;have c1:∀x x',((w.alloc x).alloc x').cell? (zO b (o+k*5+1))=some (zI d.n):=fun x x'=>((y x x').cell (p:=zO b (o+k*5+1)) (yi O J)).trans hd.n;have c2:∀x x',((w.alloc x).alloc x').cell? (zO b (o+k*5+2))=some (bs d.s):=fun x x'=>((y x x').cell (p:=zO b (o+k*5+2)) (yi O J)).trans hd.s;have c3:∀x x',((w.alloc x).alloc x').cell? (zO b (o+k*5+3))=some iv:=fun x x'=>((y x x').cell (p:=zO b (o+k*5+3)) (yi O J)).trans k3;have c4:∀x x',((w.alloc x).alloc x').cell? (zO b (o+k*5+4))=some nv:=fun x x'=>((y x x').cell (p:=zO b (o+k*5+4)) (yi O J)).trans k4;obtain⟨ia,icap,z,_⟩:=k5;obtain⟨na,ncap,D,_⟩:=k6;subst z;subst D;unfold bs at c2 V;generalize (⟨d.s.toArray⟩:zT)=ds at c2 V;generalize d.kind=dk at c0 V;rw[yR]at c3 c4;simp only[yR]at V;clear hd k3 k4 y;go_enter func215,ntmps215
 go_wp2
 exact q95 (g:=w.heap.size+1) results215 rfl rfl (q0t w _ _) rfl ⟨⟨_,rfl,V.out⟩,qkn w _ _⟩
theorem qm3(dv:Value)(D:List Dt)(p:Pc)(B:Nat)(w:World)(z:B<=w.heap.size)(I:DsAt B w dv D) :
  zC 215 #[qe0 dv p] w fun e w'=>(∃v,e=.returned v/\qm9 B w (qbe D p) v)/\zW w w':=by
 obtain⟨ao,cap,rfl,J,O,T⟩:=I;cases p with
 |none=>exact qtm none 0 0 0 B w (yg _)
 |some k=>
   by_cases U:k<D.length
   ·have y:D≠[]:=fun e=>by rw[e]at U;exact absurd U (yZ _)
    obtain⟨b,o,rfl,V,X⟩:=T y;have e:qbe D (some k)=D[k]:=by simp[qbe,List.getD,List.getElem?_eq_getElem U]
    rw[e];exact zdf b o D.length cap k B w _ U z V (X k _ (yc U))
   ·have e:qbe D (some k)=Dt.null:=by simp[qbe,List.getD,List.getElem?_eq_none (Nat.le_of_not_lt U)]
    rw[e];exact qtm ao D.length cap k B w (Nat.le_of_not_lt U)
theorem qlt{R:Ending->World->Prop}(y:f.results=#[.cell p 147])(z:a.tmps.getD p undef=zP g)(hd:a.defers=[])(D:w.heap[g]?=zK cs 147)(I:cs.size=2)(J:R (.returned (.agg cs)) w) :
  bodyPost prog f R .ret a w:=
 bodyPost_ret (qbn y _ _ g _ _ z (qaa D) underlying147 rfl (by rw[I];kernel_rfl)) hd J
theorem q27(ao:Option Addr)(n cap k:Nat)(i:Int)(w:World) :
  zC 219 #[.agg #[.slice ao n cap,zI k],zI i] w (zR (qe0 (.slice ao n cap) (qd2 k i)) w):=by
 by_cases h:i<=(k:Int)
 ·have e:qd2 k i=none:=by unfold qd2;rw[if_pos h]
  rw[e];go_enter func219,ntmps219
  go_wp2
  exact qlt (g:=w.heap.size+1) results219 rfl rfl (q0t w _ _) rfl ⟨rfl,qkn w _ _⟩
 ·have e:qd2 k i=some i.toNat:=by unfold qd2;rw[if_neg h]
  have e2:(i.toNat:Int)=i:=by omega
  have y:Hid (qe0 (.slice ao n cap) (qd2 k i)=.agg #[.slice ao n cap,zI i]):=by
   show _=_;rw[e];show Value.agg #[.slice ao n cap,zI (i.toNat:Nat)]=_;rw[e2]
  rw[y.out];clear e e2;go_enter func219,ntmps219
  go_wp2
  exact qlt (g:=w.heap.size+1) results219 rfl rfl (q0t w _ _) rfl ⟨rfl,qkn w _ _⟩
theorem qhi{d:Dt}(h:qm9 B w d v):∃ia icap na ncap,v=.agg #[zI d.kind,zI d.n,bs d.s,.slice ia d.items.length icap,.slice na d.names.length ncap]/\qk4 B w (.slice ia d.items.length icap) (d.items.map (zI))/\qk4 B w (.slice na d.names.length ncap) (d.names.map bs):=by
 obtain⟨iv,nv,rfl,D,I⟩:=h;have y:=D;have z:=I;obtain⟨ia,icap,rfl,_⟩:=D;obtain⟨na,ncap,rfl,_⟩:=I;simp only[yR]at y z |-;exact⟨ia,icap,na,ncap,rfl,y,z⟩
theorem q85(pv:Value)(ao:Option Addr)(n cap k:Nat)(y:pv=.agg #[.slice ao n cap,zI k])(d:Dt)(B:Nat)(w:World)
  (z:∀o,zC 215 #[pv] (w.alloc o) fun e w'=>(∃v,e=.returned v/\qm9 B (w.alloc o) d v)/\Below (w.alloc o).heap.size (w.alloc o) w') :
  zC 177 #[pv] w (zR (.bool (qvb d)) w):=by
 subst y;have D:Hid (∀o,zC 215 #[.agg #[.slice ao n cap,zI k]] (w.alloc o) fun e w'=>(∃ia icap na ncap,e=.returned (.agg #[zI d.kind,zI d.n,bs d.s,.slice ia d.items.length icap,.slice na d.names.length ncap]))/\zW w w'):=fun o=>(z o).mono (by
  rintro e w' ⟨⟨v,rfl,I⟩,J⟩;obtain⟨ia,icap,na,ncap,rfl,_,_⟩:=qhi I;exact⟨⟨ia,icap,na,ncap,rfl⟩,(((xL w.heap.size w).alloc (yg _) o).trans (J.mono (by rw[qcf];omega)))⟩)
 have O:Hid (qvb d=if d.kind=1 then d.n==0 else if d.kind=3 then(⟨d.s.toArray⟩:zT).toList.isEmpty else if d.kind=4 then((d.items.length:Int)==0)else if d.kind=2\/d.kind=5 then false else true):=by
  show _=_;unfold qvb;have e1:(d.s==[])=(⟨d.s.toArray⟩:zT).toList.isEmpty:=by
   have T:(⟨d.s.toArray⟩:zT).toList=d.s:=by simp[ByteArray.toList_eq]
   rw[T];cases d.s<;>rfl
  have e2:(d.items.length==0)=((d.items.length:Int)==0):=by
   rw[xh,yF,yF];omega
  rw[e1,e2]
 clear z;unfold bs at D;generalize qvb d=R at O |-;generalize d.kind=dk at D O;generalize d.n=dn at D O;generalize d.items.length=il at D O;generalize d.names.length=nl at D;generalize (⟨d.s.toArray⟩:zT)=ds at D O;rcases(show dk=1\/dk=3\/dk=4\/dk=2\/dk=5\/(dk≠1/\dk≠3/\dk≠4/\dk≠2/\dk≠5) by omega)with rfl|rfl|rfl|rfl|rfl|⟨T,U,V,X,Y⟩
 all_goals
  go_enter func177,ntmps177
  go_wp2_with (go_at_call 215;refine xQ (D.out _) ?_;rintro e w' ⟨⟨ia,icap,na,ncap,rfl⟩,J⟩)
  go_ret
  refine⟨qas ?_,J.alloc J.size _⟩;rw[O.out]
  first|rfl|(simp;done)|(simp[*];done)|skip
namespace Pl
abbrev Ev.roomy(e:Ev)(r:Int):Ev:={ e with room:=r }
def qjb(k:Nat)(w:Wt)(g h:Wt×Int):Prop:=w.out <+: g.1.out/\(w.out.length<=k->(g.1.out.length<=k->h=g)/\(k<g.1.out.length->h.2=6/\h.1.out=g.1.out.take k))
theorem qd6(k:Nat)(w:Wt)(c:Int):qjb k w (w,c) (w,c):=⟨yA _,fun y=>⟨fun _=>rfl,fun h=>absurd y (Nat.not_le_of_lt h)⟩⟩
theorem qjb.seq{k:Nat}{w:Wt}{g h:Wt×Int}(y:qjb k w g h){g' z:Wt->Wt×Int}(D:∀w,qjb k w (g' w) (z w)):qjb k w (if g.2≠0 then g else g' g.1) (if h.2≠0 then h else z h.1):=by
 obtain⟨p1,q1⟩:=y;obtain⟨p2,q2⟩:=D g.1;by_cases I:g.2≠0
 ·rw[if_pos I]
  refine⟨p1,fun J=>⟨fun O=>?_,fun O=>?_⟩⟩
  ·rw[(q1 J).1 O,if_pos I]
  ·obtain⟨c1,c2⟩:=(q1 J).2 O
   rw[if_pos (by rw[c1];decide)];exact⟨c1,c2⟩
 ·rw[if_neg I]
  refine⟨p1.trans p2,fun J=>?_⟩;have T:=p2.length_le;by_cases O:g.1.out.length<=k
  ·rw[(q1 J).1 O,if_neg I]
   exact q2 O
  ·obtain⟨c1,c2⟩:=(q1 J).2 (by omega)
   rw[if_pos (by rw[c1];decide)];refine⟨fun q=>by omega,fun _=>⟨c1,c2.trans ?_⟩⟩;obtain⟨t,U⟩:=p2;rw[<-U,xD (by omega)]
theorem qtn{k:Nat}{g h:Wt->Wt×Int}(y:∀w,qjb k w (g w) (h w))(w:Wt):qjb k w (qdo g w) (qdo h w):=by
 unfold qdo;split
 ·exact qd6 k w 5
 ·exact y { w with steps:=w.steps+1 }
theorem qyr(e:Ev)(k:Nat)(t:zU)(w:Wt):qjb k w ((e.roomy (-1)).put w t) ((e.roomy k).put w t):=by
 have e1:(e.roomy (-1)).put w t=({ w with out:=w.out++t },0):=if_neg (fun q=>absurd q.1 (by show ¬(0:Int)<=-1;decide));rw[e1];refine⟨⟨t,rfl⟩,fun y=>?_⟩;simp only[yJ];refine⟨fun z=>if_neg (fun q=>?_),fun z=>?_⟩
 ·have:=q.2
  change (k:Int) - _<_ at this;omega
 ·have e2:(e.roomy k).put w t=({ w with out:=w.out++t.take ((k:Int) - w.out.length).toNat },6):=if_pos ⟨Int.natCast_nonneg k,by show (k:Int) - _<_;omega⟩
  rw[e2];refine⟨rfl,?_⟩;show w.out++t.take _=(w.out++t).take k;rw[List.take_append,yp y,show((k:Int) - w.out.length).toNat=k - w.out.length by omega]
theorem q6e(e:Ev)(k:Nat)(K:List Pc)(name:zU)(azs:Int)(w:Wt):qjb k w ((e.roomy (-1)).hole K w name azs) ((e.roomy k).hole K w name azs):=by
 unfold Ev.hole;split
 ·exact qd6 k w _
 ·obtain⟨p,q⟩:=qyr e k (qgn azs (qc7 (qbe e.D (qe3 e.D K name)))) w
  exact⟨p,fun y=>⟨fun z=>by show(_,_)=(_,_);rw[(q y).1 z],fun z=>(q y).2 z⟩⟩
theorem qto{k:Nat}{b c:List Pc->Wt->Wt×Int}(y:∀K w,qjb k w (b K w) (c K w))(K:List Pc):∀(l:List Pc) (w:Wt),qjb k w (qc9 b K l w) (qc9 c K l w)
 |[],w=>qd6 k w 0
 |p::l,w=>(y (p::K) w).seq (qto y K l)
theorem qyq(e:Ev)(k:Nat):∀(f v a t:Nat) (wi:Int) (K:List Pc) (w:Wt),qjb k w ((e.roomy (-1)).run f v a t wi K w) ((e.roomy k).run f v a t wi K w)
 |0,_,_,_,_,_,w=>qd6 k w 5
 |f+1,v,a,t,wi,K,w=>by
   unfold Ev.run;split
   ·exact qd6 k w 0
   refine qtn (fun w=>?_) w;show qjb k w (match (e.parts v)[a]? with|none=>_|some p=>_) (match (e.parts v)[a]? with|none=>_|some p=>_);cases (e.parts v)[a]? with
   |none=>exact qd6 k w 0
   |some p=>
     have IH:=qyq e k f;show qjb k w (if p.kind=1 then _ else _) (if p.kind=1 then _ else _);by_cases y:p.kind=1
     ·rw[if_pos y,if_pos y]
      exact(qyr e k p.text w).seq (IH _ _ _ _ _)
     rw[if_neg y,if_neg y];by_cases z:p.kind=2
     ·rw[if_pos z,if_pos z]
      exact(q6e e k K p.text _ w).seq (IH _ _ _ _ _)
     rw[if_neg z,if_neg z];by_cases I:p.kind=3\/p.kind=4
     ·rw[if_pos I,if_pos I]
      refine qjb.seq ?_ (IH _ _ _ _ _);have J:∀K w,qjb k w (qdo ((e.roomy (-1)).run f v (a+1) p.mate wi K) w) (qdo ((e.roomy k).run f v (a+1) p.mate wi K) w):=fun K=>qtn (IH _ _ _ _ K);show qjb k w (if qvb (qbe e.D (qe3 e.D K p.text))≠decide (p.kind=4)then _ else _) (if qvb (qbe e.D (qe3 e.D K p.text))≠decide (p.kind=4)then _ else _);split
      ·exact qd6 k w 0
      split
      ·exact J K w
      ·exact qto J K _ w
     rw[if_neg I,if_neg I];by_cases O:p.kind=6
     ·rw[if_pos O,if_pos O]
      refine qjb.seq ?_ (IH _ _ _ _ _);show qjb k w (if(e.marks v).getD a 0=0 then _ else if e.depth<wi+1 then _ else _) (if(e.marks v).getD a 0=0 then _ else if e.depth<wi+1 then _ else _);split
      ·exact qd6 k w 0
      split
      ·exact qd6 k w 4
      ·exact IH _ _ _ _ _ w
     rw[if_neg O,if_neg O];exact(qd6 k w 0).seq (IH _ _ _ _ _)
theorem zb2(e:Ev)(k:Nat):(((e.roomy (-1)).page).1.out.length<=k->(e.roomy k).page=(e.roomy (-1)).page)/\(k<((e.roomy (-1)).page).1.out.length->((e.roomy k).page).2=6/\((e.roomy k).page).1.out=((e.roomy (-1)).page).1.out.take k):=
 (qyq e k 5002 0 0 (e.parts 0).length 0 [some 0] ⟨[],[],0⟩).2 (yH _)
end Pl
theorem q8e(c n:Int)(z:-9223372036854775808<=c)(D:c<=9223372036854775807)(I:0<n)(J:n<=9223372036854775807)(w:World) :
  zC 20 #[zI c,zI n] w fun e w'=>(∃r:Nat,(r:Int)<n/\e=.returned (zI r))/\w=w':=by
 have O:∀x:Int,0<=x->∃r:Nat,(r:Int)<n/\Int.tmod x n=r/\x % n=r:=fun x T=>by
  have U:=Int.emod_nonneg x (b:=n) (by omega);have V:=Int.emod_lt_of_pos x (b:=n) (by omega);rw[Int.tmod_eq_emod_of_nonneg T];exact⟨(x % n).toNat,by omega,by omega,by omega⟩
 have y:¬n=0:=by omega
 by_cases X:c<0
 ·obtain⟨r,Y,Z,_⟩:=O (-(c+1)) (by omega)
  rw[Int.neg_tmod]at Z;go_enter func20,ntmps20
  go_wp2
  go_ret
  exact⟨⟨r,Y,rfl⟩,rfl⟩
 ·obtain⟨r,Y,_,Z⟩:=O c (by omega)
  go_enter func20,ntmps20
  go_wp2
  go_ret
  exact⟨⟨r,Y,rfl⟩,rfl⟩
theorem zej(T:zT)(pv dv:Value)(depth room:Int)(w:World)(hd:-9223372036854775808<=depth/\depth<=9223372036854775807)(V:-9223372036854775808<=room/\room<=9223372036854775807)
  (Y:∃ao n cap,pv=.slice ao n cap) (O:∃ao n cap,dv=.slice ao n cap)
  (Z:∀w1,zW w w1->zC 17 #[] w1 (zR (.bool true) w))
  (HW:∀w1,zW w w1->zC 18 #[.string T,pv] w1 fun ed w'=>(∃b,ed=.returned (.bool b))/\zW w w')
  (R:Addr->World->Prop) (HC:(∀w1,zW w w1->zC 12 #[.string T,pv] w1 fun ed w'=>(∃a b c d,ed=.returned (.tuple #[.pointer none,.agg #[zI a,zI b,.string c,zI d]]))/\zW w w') \/
   (∀w1,zW w w1->zC 12 #[.string T,pv] w1 fun ed w'=>(∃g a b c d,ed=.returned (.tuple #[.pointer (some g),.agg #[zI a,zI b,.string c,zI d]])/\∀o,R g (w'.alloc o))/\zW w w'))
  (out:Nat->Int->zT) (ln:Nat->Int->Nat) (er:Nat->Int->Int)
  (HR:∀g (d:Nat) (rm:Int) w1,(d:Int)<51->rm<=9223372036854775807->R g w1->zW w w1->zC 19 #[.pointer (some g),dv,zI d,zI rm] w1 fun ed w'=>(∃ao cap,ed=.returned (.tuple #[.string (out d rm),.slice ao (ln d rm) cap,zI (er d rm)])/\(er d rm≠0->ao=none))/\R g w'/\zW w w')
  (hcut:∀(d k:Nat),(d:Int)<51->((out d (-1)).size<=k->out d k=out d (-1)/\ln d k=ln d (-1)/\er d k=er d (-1))/\(k<(out d (-1)).size->er d k=6/\out d k=(out d (-1)).extract 0 k))
  (I:∀d:Nat,(d:Int)<51->(out d (-1)).size<=140737488355328) :
  zC 8 #[.string T,pv,dv,zI depth,zI room] w (zR (.bool true) w):=by
 obtain⟨pa,pn,pc,rfl⟩:=Y;obtain⟨da,dn,dc,rfl⟩:=O;have Z:=zH Z;have HW:=zH HW;have HR:=zH HR;have HU:=zH hcut;have HZ:=zH I;have HP:=zH (q8e depth 51 hd.1 hd.2 (by decide) (by decide));have HM:=zH (fun n=>q8e room n V.1 V.2);have HB:=zH (xL w.heap.size w);clear hcut I hd V;rcases HC with HC|HC<;>have HC:=zH HC
 ·go_enter func8,ntmps8
  go_wp2_with (first
   |(go_at_call 12;refine xQ (HC.out _ HB.out) ?_;rintro ed w3 ⟨⟨fa,fb,fc,fd,rfl⟩,hb⟩;have HB:=zH hb;clear hb)
   |(go_at_call 18;refine xQ (HW.out _ HB.out) ?_;rintro ed w2 ⟨⟨b,rfl⟩,hb⟩;have HB:=zH hb;clear hb)
   | (go_at_call 17;refine xQ (Z.out _ HB.out) ?_;rintro ed w1 ⟨rfl,hb⟩;have HB:=zH hb;clear hb))
  all_goals
   go_ret
   first|exact⟨rfl,HB.out⟩|exact⟨rfl,HB.out.alloc HB.out.size _⟩
 go_enter func8,ntmps8
 go_wp2_with (first
  |(go_at_call 20;refine xQ (HP.out _) ?_;rintro ed w5 ⟨⟨d,hd,rfl⟩,rfl⟩)
  |(go_at_call 12;refine xQ (HC.out _ HB.out) ?_;rintro ed w3 ⟨⟨g,fa,fb,fc,fd,rfl,hG⟩,hb⟩;have HB:=zH (hb.alloc hb.size (.cells #[zI fa,zI fb,.string fc,zI fd] 31));have HG:=zH (hG (.cells #[zI fa,zI fb,.string fc,zI fd] 31));clear hb hG)
  |(go_at_call 18;refine xQ (HW.out _ HB.out) ?_;rintro ed w2 ⟨⟨b,rfl⟩,hb⟩;have HB:=zH hb;clear hb)
  | (go_at_call 17;refine xQ (Z.out _ HB.out) ?_;rintro ed w1 ⟨rfl,hb⟩;have HB:=zH hb;clear hb))
 ·go_ret
  exact⟨rfl,HB.out⟩
 have HR:=zH (fun rm h w1=>HR.out g d rm w1 hd h);have HU:=zH (fun k=>HU.out d k hd);have hz:=HZ.out d hd;generalize out d=out at HR HU hz;generalize ln d=ln at HR HU;generalize er d=er at HR HU;clear HZ HP HC HW Z;refine xQ (HR.out _ (by omega) _ HG.out HB.out) ?_;rintro ed w4 ⟨⟨ao,cap,rfl,J⟩,hG,hb⟩;have HB:=zH hb;have HG:=zH hG;clear hb hG;have D:=zH (HR.out (-1) (by omega));obtain⟨S,hS⟩:∃S,out (-1)=S:=⟨_,rfl⟩;rw[hS]at hz HU D;simp only[hS];generalize er (-1)=E at D HU J;generalize ln (-1)=N at D HU;go_wp2_with (go_at_call 20;refine xQ (HM.out _ (by omega) (by omega) _) ?_;rintro ed w5 ⟨⟨k,hk,rfl⟩,rfl⟩)
 have U:Hid (∀w1,R g w1->zW w w1->zC 19 #[.pointer (some g),.slice da dn dc,zI d,zI (S.size:Nat)] w1 fun ed w'=>(∃ao cap,ed=.returned (.tuple #[.string S,.slice ao N cap,zI E])/\(E≠0->ao=none))/\R g w'/\zW w w'):=by
  have h1:=HR.out S.size (by omega);obtain⟨q1,q2,q3⟩:=(HU.out S.size).1 (yg _);rw[q1,q2,q3]at h1;exact h1
 have hu:=HU.out k;have z:=HR.out k (by omega) _ HG.out HB.out;generalize out k=X at hu z;generalize er k=F at hu z;generalize ln k=n at hu z;refine z.mono ?_;rintro ed w6 ⟨⟨ao2,cap2,rfl,y⟩,hG,hb⟩;have HB:=zH hb;have HG:=zH hG;have he:S.extract 0 S.size=S:=by simp
 clear z hb hG HR HU J;rcases(show(k:Int)<S.size\/k=S.size/\E=0\/k=S.size/\E≠0 by omega)with h|⟨rfl,rfl⟩|⟨rfl,h⟩
 case' inl=>
  obtain⟨rfl,rfl⟩:=hu.2 (Int.ofNat_lt.1 h);obtain rfl:=y (by decide)
 case' inr.inl=>obtain⟨rfl,rfl,rfl⟩:=hu.1 (yg _)
 case' inr.inr=>
  obtain⟨rfl,rfl,rfl⟩:=hu.1 (yg _);obtain rfl:=y h
 all_goals
  clear hu y;go_wp2_with fail
  refine xQ (U.out _ HG.out HB.out) ?_;rintro ed w7 ⟨⟨ao7,cap7,rfl,_⟩,hG,hb⟩;have HB:=zH hb;have HG:=zH hG;clear hb hG;go_wp2_with fail
  refine xQ (D.out _ HG.out HB.out) ?_;rintro ed w8 ⟨⟨ao8,cap8,rfl,_⟩,hG,hb⟩;have HB:=zH hb;clear hb hG;go_wp2_with fail
  go_ret
  exact⟨rfl,HB.out⟩
end Go.Proofs.YtfkhljmiehdgmaaGreatDoor
