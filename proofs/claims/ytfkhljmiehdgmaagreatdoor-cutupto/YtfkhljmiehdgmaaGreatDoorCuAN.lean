/-
  Steps of the proof.
-/
import Derived.Test.YtfkhljmiehdgmaaGreatDoorCuAM
import Derived.Deep.RegionHeld3
set_option maxRecDepth 100000
set_option maxHeartbeats 40000000
namespace Go.Proofs.YtfkhljmiehdgmaaGreatDoor
open Go.RowKit Go.Proofs.Tryz Pl
variable{w:World}
def S(l:zU):Value:=.string ⟨l.toArray⟩
def qig:Array Value:=#[.string ⟨#[104,116,116,112]⟩,.string ⟨#[104,116,116,112,115]⟩,.string ⟨#[109,97,105,108,116,111]⟩]
def qez:Array Value:=#[
 zI 1,.string ⟨#[38]⟩,.string ⟨#[38,97,109,112,59]⟩,
 zI 1,.string ⟨#[60]⟩,.string ⟨#[38,108,116,59]⟩,
 zI 1,.string ⟨#[62]⟩,.string ⟨#[38,103,116,59]⟩,
 zI 1,.string ⟨#[34]⟩,.string ⟨#[38,113,117,111,116,59]⟩,
 zI 1,.string ⟨#[39]⟩,.string ⟨#[38,35,51,57,59]⟩,
 zI 4,.string ⟨#[226,128,168]⟩,.string ⟨#[92,117,50,48,50,56]⟩,
 zI 4,.string ⟨#[226,128,169]⟩,.string ⟨#[92,117,50,48,50,57]⟩]
def zh5:zT:=⟨#[48,49,50,51,52,53,54,55,56,57,65,66,67,68,69,70]⟩
def zhe:zT:=⟨#[48,49,50,51,52,53,54,55,56,57,97,98,99,100,101,102]⟩
def zcl:zT:=⟨#[45,46,95,126,47,63,35,91,93,64,33,36,40,41,42,43,44,59,61]⟩
def q3n:Array Value:=#[
 .bool false,zS,zS,zS,zS,.bool false,zS,
 .bool false,zS,zS,zS,zS,.bool false,zS,
 .bool false,zS,zS,zS,zS,.bool false,zS,
 .bool false,zS,.string zcl,.string ⟨#[37]⟩,.string zh5,.bool false,zS,
 .bool true,.string ⟨#[34,39,38,47,60,62,92,96]⟩,zS,.string ⟨#[92,120]⟩,.string zhe,.bool false,zS,
 .bool true,.string ⟨#[34,39,38,47,60,62,92]⟩,zS,.string ⟨#[92]⟩,.string zhe,.bool true,.string ⟨#[32]⟩]
def Tabs(w:World):Prop:=
 (∀j v,qig.toList[j]?=some v->w.cell? (zO 7 j)=some v)/\(∀j v,qez.toList[j]?=some v->w.cell? (zO 8 j)=some v)/\(∀j v,q3n.toList[j]?=some v->w.cell? (zO 9 j)=some v)
theorem qka{g j:Nat}{v:Value}(h:w.cell? (zO g j)=some v):g<w.heap.size:=by
 rcases Nat.lt_or_ge g w.heap.size with y|y
 ·exact y
 ·simp[World.cell?,Array.getElem?_eq_none y]at h
theorem Tabs.lt(h:Tabs w):9<w.heap.size:=qka (h.2.2 0 _ rfl)
theorem Tabs.kept{w':World}{B:Nat}(h:Tabs w)(y:Below B w w')(z:9<B):Tabs w':=
 ⟨fun j v D=>(y.cell (p:=zO 7 j) (by simp;omega)).trans (h.1 j v D),fun j v D=>(y.cell (p:=zO 8 j) (by simp;omega)).trans (h.2.1 j v D),fun j v D=>(y.cell (p:=zO 9 j) z).trans (h.2.2 j v D)⟩
section
open Go.Lib
variable{w0 w w':World}{g M:Nat}{vv dv:Value}{e:Ev}{K:List Pc}{o:Wt}
structure ViOne(w:World)(e:Ev)(v:Nat)(po:Option Addr)(pcap:Nat)(gm:Nat):Prop where
 part:∀j q,(qbp (e.parts v))[j]?=some q->∃b,po=some (zO b 0)/\b<w.heap.size/\w.cell? (zO b j)=some q
 mark:∀j m,(e.marks v)[j]?=some m->w.cell? (zO gm j)=some (zI m)
 lt:gm<w.heap.size
structure Evm(w:World)(vv dv:Value)(e:Ev)(M:Nat):Prop where
 ok:e.Ok
 small:e.Small M
 bound:5001*M<=140737488355328
 ds:DsAt w.heap.size w dv e.D
 num:∀d∈e.D,-9223372036854775808<=d.n/\d.n<=9223372036854775807
 pow:qzn w
 powB:14<w.heap.size
 ml:qa3 w
 tabs:Tabs w
 room:e.room<=9223372036854775807
 depth:0<=e.depth/\e.depth<=50
 shows:∀p,(qc7 (qbe e.D p)).length<=10000000
 names:∀v p,p∈e.parts v->p.text.length<=100000
 vis:∃bv cap,vv=zF bv e.vis.length cap/\bv<w.heap.size/\∀v,v<e.vis.length->∃po pcap gm,ViOne w e v po pcap gm/\w.cell? (zO bv (v*2))=some (.slice po (e.parts v).length pcap)/\w.cell? (zO bv (v*2+1))=some (zF gm (e.parts v).length (e.parts v).length)
def OutC(w0:World)(g:Nat)(vv dv:Value)(e:Ev)(K:List Pc)(r:Wt×Int)(w:World):Ending->World->Prop:=fun ed w'=>
 ed=.returned (zI r.2)/\(∃K',WrAt w' w0.heap.size g vv dv e K' r.1/\(r.2=0->K'=K))/\Rn w0.heap.size g w w'
theorem OutC.from{r:Wt×Int}{w1:World}{ed:Ending}(h:OutC w0 g vv dv e K r w1 ed w')(y:Rn w0.heap.size g w w1):OutC w0 g vv dv e K r w ed w':=⟨h.1,h.2.1,y.trans h.2.2⟩
structure Wst(w0:World)(g:Nat)(vv dv:Value)(e:Ev)(M:Nat)(K:List Pc)(o:Wt)(w:World):Prop where
 base:zW w0 w
 at':WrAt w w0.heap.size g vv dv e K o
 fin:Fin e M o
 ne:K≠[]
theorem Wst.below(h:Wst w0 g vv dv e M K o w)(y:zW w w'):Wst w0 g vv dv e M K o w':=
 ⟨h.base.trans (y.mono h.base.size),h.at'.below y,h.fin,h.ne⟩
theorem Wst.rn(h:Wst w0 g vv dv e M K o w)(y:zW w w'):Rn w0.heap.size g w w':=
 Rn.of_below y h.base.size h.at'.lt.2
theorem ViOne.below{v:Nat}{po:Option Addr}{pcap gm:Nat}(h:ViOne w e v po pcap gm)(y:zW w w'):(∀j q,(qbp (e.parts v))[j]?=some q->∃b,po=some (zO b 0)/\w'.cell? (zO b j)=some q)/\(∀j m,(e.marks v)[j]?=some m->w'.cell? (zO gm j)=some (zI m)):=by
 refine⟨fun j q z=>?_,fun j m D=>?_⟩
 ·obtain⟨b,I,J,O⟩:=h.part j q z
  exact⟨b,I,(y.cell (p:=zO b j) J).trans O⟩
 ·exact(y.cell (p:=zO gm j) h.lt).trans (h.mark j m D)
def qjl(po:Option Addr)(n pcap gm:Nat)(at' tz:Nat)(qad:Int):Value:=.agg #[.slice po n pcap,zF gm n n,zI at',zI tz,zI qad]
def qrx(w0:World)(g:Nat)(vv dv:Value)(e:Ev)(M f:Nat):Prop:=
 ∀(v at' tz:Nat) (qad:Int) (K:List Pc) (o:Wt) (w:World) (po:Option Addr) (pcap gm:Nat),ViOne w0 e v po pcap gm->tz<=(e.parts v).length->0<=qad->qad<=50->Wst w0 g vv dv e M K o w->5001<=f+o.steps->K.length<=o.steps+1 ->
  zC 90 #[zP g,qjl po (e.parts v).length pcap gm at' tz qad] w (OutC w0 g vv dv e K (e.run f v at' tz qad K o) w)
theorem qpb(h:Wst w0 g vv dv e M K o w) :
  zC 124 #[zP g] w fun ed w'=>(o.steps=5000/\ed=.returned (zI 5)/\w=w')\/(o.steps≠5000/\ed=.returned (zI 0)/\zW w0 w'/\WrAt w' w0.heap.size g vv dv e K { o with steps:=o.steps+1 }/\Rn w0.heap.size g w w'):=by
 obtain⟨sv,z,p,v,D⟩:=h.at';by_cases I:o.steps=5000
 ·have y:=D.wb
  rw[I]at y;refine cm (q7t w w0.heap.size g _ _ _ _ _ _ _ _ y) ?_;exact .inl ⟨I,rfl,rfl⟩
 ·refine(ze2 w w0.heap.size g o.steps _ _ _ _ _ _ _ _ (by have:=h.fin.steps;omega) D.wb).mono ?_
  rintro ed w' ⟨rfl,J,O,T⟩;exact .inr ⟨I,rfl,h.base.trans O,⟨sv,z,p,v,D.turn J T rfl⟩,Rn.of_wb D.wb J O T⟩
theorem zao(w:World)(g:Nat)(po:Option Addr)(n pcap gm at' tz:Nat)(qad:Int)(R:World->Prop)
  (y:∀o,zC 124 #[zP g] (w.alloc o) fun ed w'=>ed=.returned (zI 5)/\R w') :
  zC 178 #[zP g,qjl po n pcap gm at' tz qad] w fun ed w'=>ed=.returned (zI 5)/\R w':=by
 have z:=zH y;clear y;unfold qjl;go_enter func178,ntmps178
 go_wp2_with (go_at_call 124;refine xQ (z.out _) ?_;rintro ed w' ⟨rfl,D⟩)
 go_ret
 exact⟨rfl,D⟩
theorem zgk(w:World)(g:Nat)(po:Option Addr)(n pcap gm at' tz:Nat)(qad:Int)(R:Ending->World->Prop)(z:Int)(y:∀ed w',R ed w'->ed=.returned (zI z))
  (D:∀o,o=.cells #[.slice po n pcap,zF gm n n,zI at',zI tz,zI qad] 208->zC 124 #[zP g] (w.alloc o) fun ed w'=>ed=.returned (zI 0) /\
   (w'.cell? (zO w.heap.size 0)=some (.slice po n pcap)/\w'.cell? (zO w.heap.size 1)=some (zF gm n n)/\w'.cell? (zO w.heap.size 2)=some (zI at')/\w'.cell? (zO w.heap.size 3)=some (zI tz)/\w'.cell? (zO w.heap.size 4)=some (zI qad)) /\
   Hid (zC 90 #[zP g,qjl po n pcap gm at' tz qad] w' R)) :
  zC 178 #[zP g,qjl po n pcap gm at' tz qad] w R:=by
 have I:Hid (zC 124 #[zP g] (w.alloc (.cells #[.slice po n pcap,zF gm n n,zI at',zI tz,zI qad] 208)) _):=D _ rfl;clear D;have J:=zH y;clear y;unfold qjl at I |-;go_enter func178,ntmps178
 go_wp2_with (first
  |(go_at_call 90;refine xQ HP.out ?_;intro ed w2 O;obtain rfl:=J.out _ _ O)
  | (go_at_call 124;refine xQ I.out ?_;rintro ed w' ⟨rfl,⟨c0,c1,c2,c3,c4⟩,HP⟩))
 exact O
theorem zdo{f:Nat}(Y:qrx w0 g vv dv e M f)(v at' tz:Nat)(qad:Int)(K:List Pc)(o:Wt)(w:World)(po:Option Addr)(pcap gm:Nat)(Z:ViOne w0 e v po pcap gm)(O:tz<=(e.parts v).length)(T:0<=qad)(U:qad<=50)(h:Wst w0 g vv dv e M K o w)(hf:5000<=f+o.steps)(hK:K.length<=o.steps+2) :
  zC 178 #[zP g,qjl po (e.parts v).length pcap gm at' tz qad] w (OutC w0 g vv dv e K (qdo (e.run f v at' tz qad K) o) w):=by
 have y:∀ob,zW w (w.alloc ob):=fun ob=>zB ob;unfold qdo;by_cases hs:o.steps=5000
 ·rw[if_pos hs]
  refine(zao w g po (e.parts v).length pcap gm at' tz qad (fun w'=>(∃K',WrAt w' w0.heap.size g vv dv e K' o/\((5:Int)=0->K'=K))/\Rn w0.heap.size g w w') fun ob=>?_).mono fun ed w' hx=>⟨hx.1,hx.2⟩;refine(qpb (h.below (y ob))).mono ?_;rintro ed w' (⟨_,rfl,rfl⟩|⟨h1,_⟩)
  ·exact⟨rfl,⟨K,(h.below (y ob)).at',fun _=>rfl⟩,h.rn (y ob)⟩
  ·exact absurd hs h1
 ·rw[if_neg hs]
  refine zgk w g po (e.parts v).length pcap gm at' tz qad _ _ (fun ed w' hx=>hx.1) fun ob J=>?_;have V:=h.below (y ob);refine(qpb V).mono ?_;rintro ed w' (⟨h1,_⟩|⟨_,rfl,h2,h3,h4⟩)
  ·exact absurd h1 hs
  ·have X:(w.alloc ob).heap[w.heap.size]?=some ob:=xF w ob
   have D:¬Ow g (w.alloc ob) w.heap.size:=fun hx=>Nat.lt_irrefl _ (h.at'.own_lt ((qjv ((y ob).block g h.at'.lt.2) _).1 hx));have z:w'.heap[w.heap.size]?=some ob:=h4.kept _ _ X D (fun c fz hx=>by rw[J]at hx;injection hx with _ hx _;exact absurd hx (by decide));rw[J]at z;have c:=qaa z;have I:Wst w0 g vv dv e M K { o with steps:=o.steps+1 } w':=⟨h2,h3,(h.fin.step hs).fin,h.ne⟩;refine⟨rfl,⟨c 0 _ rfl,c 1 _ rfl,c 2 _ rfl,c 3 _ rfl,c 4 _ rfl⟩,?_⟩;show Calls _ _ _ _ _;refine(Y v at' tz qad K { o with steps:=o.steps+1 } w' po pcap gm Z O T U I (by show 5001<=f+(o.steps+1);omega) (by show K.length<=o.steps+1+1;omega)).mono ?_;intro ed w2 hx;exact hx.from ((h.rn (y ob)).trans h4)
end
section
open Go Go.Shelf
variable{B g k n n' k' fuel:Nat}{w w':World}{cs:Array Value}{vv dv x y sv p v z:Value}{e:Ev}{K:List Pc}{o:Wt}{xs ys:List Value}{listed:Array Bool}{a:Act}
structure Mine(g:Nat)(w:World)(k:Nat)(cs:Array Value)(T:TypeId):Prop where
 blk:w.heap[k]?=zK cs T
 far:¬Ow g w k
 ty:T≠5
theorem Mine.rn{T:TypeId}(h:Mine g w k cs T)(y:Rn B g w w'):Mine g w' k cs T:=by
 refine⟨y.kept k _ h.blk h.far (fun c fz e=>by injection e with _ z _;exact h.ty z),fun D=>?_,h.ty⟩;rcases y.fresh k D with I|I
 ·exact h.far I
 ·have:=(zL h.blk)
  omega
theorem Mine.new(h:WrAt w B g vv dv e K o)(cs:Array Value)(T:TypeId)(y:T≠5):Mine g (w.alloc (.cells cs T)) w.heap.size cs T:=
 ⟨xF w _,fun z=>Nat.lt_irrefl _ (h.own_lt ((qjv (((xL _ w).alloc (yg _) _).block g h.lt.2) _).1 z)),y⟩
theorem Mine.cell{T:TypeId}(h:Mine g w k cs T)(j:Nat)(v:Value)(y:cs[j]?=some v):w.cell? (zO k j)=some v:=qaa h.blk j v (by simpa using y)
theorem Mine.thaw{T:TypeId}(h:Mine g w k cs T)(j:Nat):w.frozen? (zO k j)=false:=by simp[World.frozen?,h.blk]
theorem Mine.lt{T:TypeId}(h:Mine g w k cs T):k<w.heap.size:=(zL h.blk)
theorem Mine.gne{T:TypeId}(h:Mine g w k cs T):k≠g:=fun e=>h.far (.inl e)
theorem WrAt.set(h:WrAt w B g vv dv e K o){k:Nat}{cs:Array Value}{T:TypeId}(z:Mine g w k cs T)(j:Nat)(v:Value):WrAt (w.setCell (zO k j) v) B g vv dv e K o:=by
 have D:∀i,i≠k->(w.setCell (zO k j) v).heap[i]?=w.heap[i]?:=fun i I=>xK _ _ _ _ I;obtain⟨sv,J,p,bv,O⟩:=h;have y:=O.wb.all;refine⟨sv,J,p,bv,⟨O.wb.le,(D g (fun e=>z.gne e.symm)).trans O.wb.blk,?_,O.wb.adr,O.wb.nil⟩,qab O.st fun b U=>D b fun e=>?_,qab O.ho fun b U=>D b fun e=>?_⟩
 ·refine O.wb.own.kept (row:=some k) ⟨rfl,rfl,rfl,by simp[World.setCell],fun i _ I=>D i (fun e=>I (by simp[e]))⟩ (Or.inr fun e=>?_)
  rcases O.wb.own.2 with⟨V,_⟩|⟨b,cap,cur,fz,V,_,X,_⟩
  ·rw[V]at e;cases e
  ·rw[V]at e
   obtain rfl:b=k:=yk e;have Y:=z.blk;rw[X]at Y;injection Y with Y;injection Y with _ Y _;exact z.ty Y.symm
 ·subst e
  exact z.far (.inr (.inl ⟨sv,y.2.2.2.1,U⟩))
 ·subst e
  exact z.far (.inr (.inr ⟨J,y.2.2.2.2.2.1,U⟩))
theorem qju{T U:TypeId}{fz:Nat×Nat}(h:w.ownsRow B T k x n xs)(z:w.heap[g]?=some (.cells cs U fz))(y:T≠U):x.ownBlock≠some g:=by
 intro e;obtain⟨cur,D⟩:=qac h g e;exact qae D z y rfl
theorem qxb{T U:TypeId}(h:w.ownsRow B T k x n xs)(D:w.ownsRow B U k' y n' ys)(z:T≠U):x.ownBlock=none\/x.ownBlock≠y.ownBlock:=by
 cases I:x.ownBlock with
 |none=>exact .inl rfl
 |some b=>
   right;intro e;obtain⟨c1,J⟩:=qac h b I;obtain⟨c2,O⟩:=qac D b e.symm;exact qae J O z rfl
theorem qsz{T U:TypeId}(h:w.ownsRowF B T k x n xs)(D:w.ownsRow B U k' y n' ys)(z:T≠U):x.ownBlock=none\/x.ownBlock≠y.ownBlock:=by
 rcases h.2 with⟨I,_⟩|⟨b,cap,cur,fz,I,_,J,_⟩
 ·exact .inl (by rw[I];rfl)
 ·right
  intro e;rw[I]at e;obtain⟨c2,O⟩:=qac D b e.symm;exact qae J O z rfl
theorem q2w{T:TypeId}(h:w.ownsRow B T k x n xs){b:Nat}(y:x.ownBlock=some b):B<=b:=by
 rcases h.2 with⟨z,_⟩|⟨c,cap,cur,z,D,_⟩
 ·rw[z]at y;cases y
 ·rw[z]at y
  obtain rfl:c=b:=yk y;exact D
theorem q8o{α:Type}{x y:Option α}(h:x=none\/x≠y){b:α}(z:x=some b):some b≠y:=by
 rcases h with h|h
 ·rw[h]at z;cases z
 ·rw[<-z];exact h
theorem WrV.push{w1:World}{hv:Value}(h:WrV w B g vv dv e K o sv hv p v)(hb:zW w w1)(x:Pc){v':Value}
  (I:w'.ownsRow B 147 2 v' (K.length+1) (qis dv K++[pcA dv x,zI (pcI x)])) (J:w1.grownBy w' sv.ownBlock) (T:v'.ownBlock=sv.ownBlock\/v'.ownBlock=some w1.heap.size) :
  (w'.cell? (zO g 3)=some sv/\w'.frozen? (zO g 3)=false)/\WrV (w'.setCell (zO g 3) v') B g vv dv e (x::K) o v' hv p v/\Rn B g w (w'.setCell (zO g 3) v'):=by
 have h1:=h.below hb;have V:g<w1.heap.size:=(zL h1.wb.blk);have y:=(J.block g V (fun e=>qju h1.st h1.wb.blk (by decide) e.symm)).trans h1.wb.blk;have z:∀i,i≠g->(w'.setCell (zO g 3) v').heap[i]?=w'.heap[i]?:=fun i hi=>xK _ _ _ _ hi;have X:=xG _ _ 3 _ _ v' y;have Z:B<=w1.heap.size:=yh h1.wb.le (yj V);have ha:v.ownBlock=none\/v.ownBlock≠some g:=Or.inr h1.wb.ne;have U:Below B w (w'.setCell (zO g 3) v'):=((hb.mono (yh h.wb.le (yj (zL h.wb.blk)))).trans ((xL B w1).grown J Z (fun k e=>q2w h1.st e))).setCell (p:=zO g 3) h.wb.le _;refine⟨⟨qaa y 3 _ rfl,by simp[World.frozen?,y]⟩,⟨⟨h1.wb.le,X,?_,h1.wb.adr,h1.wb.nil⟩,?_,?_⟩,⟨U,fun k ob hk hn _=>?_,fun k hk=>?_⟩⟩
 ·exact(h1.wb.own.kept (row:=sv.ownBlock) J (qsz h1.wb.own h1.st (by decide))).kept (row:=some g) ⟨rfl,rfl,rfl,by simp[World.setCell],fun i _ hi=>z i (fun e=>hi (by simp[e]))⟩ ha
 ·rw[qjk]
  exact qab I fun b O=>z b (fun e=>by subst e;exact qju I y (by decide) O)
 ·refine qab h1.ho fun b O=>?_
  obtain⟨cur,hc⟩:=qac h1.ho b O;exact(z b (fun e=>by subst e;exact qju h1.ho h1.wb.blk (by decide) O)).trans (J.block b (ya.1 hc).1 (q8o (qxb h1.ho h1.st (by decide)) O))
 ·have Y:=(ya.1 hk).1
  have Ha:=(hb.block k Y).trans hk;have D:=h.wb.all;exact(z k (fun e=>hn (.inl e))).trans ((J.block k (yi Y hb.size) (fun e=>hn (.inr (.inl ⟨sv,D.2.2.2.1,e.symm⟩)))).trans Ha)
 ·have D:=h.wb.all
  have c:=qaa X;rcases hk with rfl|⟨s2,h5,h6⟩|⟨s2,h5,h6⟩
  ·exact .inl (.inl rfl)
  ·rw[c 3 _ rfl]at h5
   obtain rfl:=yk h5;rcases T with h7|h7
   ·exact .inl (.inr (.inl ⟨sv,D.2.2.2.1,by rw[<-h7];exact h6⟩))
   ·rw[h7]at h6
    have:=yk h6;have:=hb.size;exact .inr (by omega)
  ·rw[c 7 _ rfl]at h5
   obtain rfl:=yk h5;exact .inl (.inr (.inr ⟨_,D.2.2.2.2.2.1,h6⟩))
theorem WrV.pop{x:Pc}{U:Value}(h:WrV w B g vv dv e (x::K) o sv U p v) :
  ∃so cap,sv=.slice so (K.length+1) cap/\K.length+1<=cap/\cap<=maxLen/\WrV (w.setCell (zO g 3) (.slice so K.length cap)) B g vv dv e K o (.slice so K.length cap) U p v/\Rn B g w (w.setCell (zO g 3) (.slice so K.length cap)):=by
 have y:∀v',∀i,i≠g->(w.setCell (zO g 3) v').heap[i]?=w.heap[i]?:=fun v' i V=>xK _ _ _ _ V;have T:=h.st;rcases h.st.2 with⟨_,X⟩|⟨b,cap,cur,Y,X,Z,h4,h5,h6,h7⟩
 ·cases X
 ·subst Y
  have I:b≠g:=fun e=>by subst e;exact qju h.st h.wb.blk (by decide) rfl
  have z:(qis dv K).length=K.length*2:=qp8 dv K;have J:cur.toList.take (K.length*2)=qis dv K:=by
   have h8:=yE (List.take (K.length*2)) h7;rw[List.take_take,qjk,xD (by omega),<-z,List.take_length,z]at h8;rw[<-h8]
   congr 1
   simp only[yK];omega
  refine⟨some (zO b 0),cap,rfl,h4,h5,⟨⟨h.wb.le,xG _ _ 3 _ _ _ h.wb.blk,?_,h.wb.adr,h.wb.nil⟩,⟨z,.inr ⟨b,cap,cur,rfl,X,(y _ b I).trans Z,by simp only[yK]at h4;omega,h5,h6,J⟩⟩,qab h.ho fun b' O=>y _ b' (fun e=>by subst e;exact qju h.ho h.wb.blk (by decide) O)⟩,⟨(xL B w).setCell (p:=zO g 3) h.wb.le _,fun k ob hk hn _=>(y _ k (fun e=>hn (.inl e))).trans hk,fun k hk=>.inl ?_⟩⟩
  ·exact h.wb.own.kept (row:=some g) ⟨rfl,rfl,rfl,by simp[World.setCell],fun i _ V=>y _ i (fun e=>V (by simp[e]))⟩ (Or.inr h.wb.ne)
  ·have D:=h.wb.all
   have c:=qaa (xG _ _ 3 _ _ (zF b K.length cap) h.wb.blk);rcases hk with rfl|⟨s2,h8,h9⟩|⟨s2,h8,h9⟩
   ·exact .inl rfl
   ·rw[c 3 _ rfl]at h8
    obtain rfl:=yk h8;exact .inr (.inl ⟨_,D.2.2.2.1,h9⟩)
   ·rw[c 7 _ rfl]at h8
    obtain rfl:=yk h8;exact .inr (.inr ⟨_,D.2.2.2.2.2.1,h9⟩)
theorem WrV.grown(h:WrV w B g vv dv e K o sv z p v){row:Option Nat}(y:w.grownBy w' row)(D:∀r,row=some r->∃ob:Obj,w.heap[r]?=some ob/\ob.isCells=false):WrV w' B g vv dv e K o sv z p v:=by
 have I:∀(k:Nat) (cs:Array Value) (T:TypeId) (fz:Nat×Nat),w.heap[k]?=some (Obj.cells cs T fz)->w'.heap[k]?=some (Obj.cells cs T fz):=fun k cs T fz I=>(y.block k (ya.1 I).1 (fun e=>by
  obtain⟨ob,J,O⟩:=D k e.symm;rw[I]at J;cases J;cases O)).trans I
 refine⟨⟨h.wb.le,I _ _ _ _ h.wb.blk,?_,h.wb.adr,h.wb.nil⟩,qab h.st fun b U=>?_,qab h.ho fun b U=>?_⟩
 ·refine h.wb.own.kept (row:=row) y ?_
  rcases h.wb.own.2 with⟨J,_⟩|⟨b,cap,cur,fz,J,_,V,_⟩
  ·exact .inl (by rw[J];rfl)
  ·right
   intro e;rw[J]at e;obtain⟨ob,X,Y⟩:=D b e.symm;rw[V]at X;cases X;cases Y
 ·obtain⟨cur,Z⟩:=qac h.st b U
  rw[Z];exact I _ _ _ _ Z
 ·obtain⟨cur,Z⟩:=qac h.ho b U
  rw[Z];exact I _ _ _ _ Z
theorem WrAt.grown(h:WrAt w B g vv dv e K o){row:Option Nat}(y:w.grownBy w' row)(z:∀r,row=some r->∃ob:Obj,w.heap[r]?=some ob/\ob.isCells=false):WrAt w' B g vv dv e K o:=by
 obtain⟨sv,D,p,v,h⟩:=h;exact⟨sv,D,p,v,h.grown y z⟩
def Gb(g:Nat)(w:World):Prop:=∃cs,w.heap[g]?=zK cs 155
theorem WrAt.gb(h:WrAt w B g vv dv e K o):Gb g w:=by
 obtain⟨sv,y,p,v,h⟩:=h;exact⟨_,h.wb.blk⟩
theorem qi6{row:Option Nat}(y:w.grownBy w' row)(z:∀r,row=some r->∃ob:Obj,w.heap[r]?=some ob/\ob.isCells=false){k:Nat}{cs:Array Value}{T:TypeId}{fz:Nat×Nat}(D:w.heap[k]?=some (.cells cs T fz)):w'.heap[k]?=w.heap[k]?:=
 y.block k (ya.1 D).1 fun e=>by
  obtain⟨ob,I,J⟩:=z k e.symm;rw[D]at I;cases I;cases J
theorem Gb.grown(h:Gb g w){row:Option Nat}(y:w.grownBy w' row)(z:∀r,row=some r->∃ob:Obj,w.heap[r]?=some ob/\ob.isCells=false):Gb g w':=by
 obtain⟨cs,h⟩:=h;exact⟨cs,(qi6 y z h).trans h⟩
theorem Mine.grown{T:TypeId}(h:Mine g w k cs T)(z:Gb g w){row:Option Nat}(y:w.grownBy w' row)(D:∀r,row=some r->∃ob:Obj,w.heap[r]?=some ob/\ob.isCells=false):Mine g w' k cs T:=by
 obtain⟨gs,z⟩:=z;exact⟨(qi6 y D h.blk).trans h.blk,fun I=>h.far ((qjv (qi6 y D z) _).1 I),h.ty⟩
theorem Rn.grown{a b:World}(h:Rn B g w a)(z:B<=w.heap.size)(D:Gb g a){row:Option Nat}(y:a.grownBy b row)(I:∀r,row=some r->w.heap.size<=r/\∃ob:Obj,a.heap[r]?=some ob/\ob.isCells=false):Rn B g w b:=by
 obtain⟨gs,D⟩:=D;refine⟨h.below.grown y (yh z h.below.size) (fun k e=>yh z (I k e).1),fun k ob J O T=>(y.block k (yi (ya.1 J).1 h.below.size) (fun e=>?_)).trans (h.kept k ob J O T),fun k J=>h.fresh k ((qjv (qi6 y (fun r e=>(I r e).2) D) _).1 J)⟩;have U:=(I k e.symm).1;have V:=(ya.1 J).1;omega
theorem Mine.put{T:TypeId}(h:Mine g w k #[z] T)(v:Value):Mine g (w.setCell (zO k 0) v) k #[v] T:=
 ⟨xG _ _ 0 _ _ v h.blk,fun y=>h.far ((qjv (xK _ _ _ _ (fun e=>h.gne (by simpa using e.symm))) _).1 y),h.ty⟩
theorem Mine.apart{T:TypeId}(h:Mine g w k cs T){sv:Value}(y:w.cell? (zO g 3)=some sv):some k≠sv.ownBlock:=fun e=>h.far (.inr (.inl ⟨sv,y,e.symm⟩))
theorem q73{W:World}(O:B<=w.heap.size)(U:WrAt W B g vv dv e K o)(I:Rn B g w W){k:Nat}{z:Value}{T:TypeId}(V:Mine g W k #[z] T){D:Nat}(X:w.heap.size<=D)(J:W.heap[D]?=some (.deferred (some []))) :
  WrAt (W.putObj D (.deferred none)) B g vv dv e K o/\Rn B g w (W.putObj D (.deferred none))/\(W.putObj D (.deferred none)).cell? (zO k 0)=some z:=by
 have y:=grownBy_putObj' W D (.deferred none);have Y:∀r,some D=some r->w.heap.size<=r/\∃ob:Obj,W.heap[r]?=some ob/\ob.isCells=false:=fun r e=>by cases e;exact⟨X,_,J,rfl⟩
 exact⟨U.grown y (fun r e=>(Y r e).2),I.grown O U.gb y Y,(V.grown U.gb y (fun r e=>(Y r e).2)).cell 0 _ rfl⟩
section
variable {P:Program}{md:Region.Mode}{ops:Array Oper}{Q:Exit->Act->World->Prop}{S:World->Prop}
theorem qbf{i:Nat}(v:Value){o:Oper}(y:ops[i]?=some o)(z:Region.noSelect ops=true)(D:Region.free md ops listed i=true)(I:(Region.ready md ops listed).contains i=true)
  (hQ:∀c a w,Q (.panic c) (a.put o.dst v) w->Q (.panic c) a w) (J:o.guard=none) (O:∀w',S w'->(execOp a.eval o).run P w'=.ok (.value v) w') (T:S w) (h:wpAnyH P md ops Q S fuel (listed.setIfInBounds i true) (a.put o.dst v) w):wpAnyH P md ops Q S (fuel+1) listed a w:=
 wpAnyH_take y z D I hQ (Or.inl ⟨by simp[Region.wanted,J],O⟩) T h
theorem rd{r:Nat}{o:Oper}(y:Region.ready md ops listed=[r])(z:ops[r]?=some o)
  (h:∀K':Act->World->Prop,Shut (∀a w,S w->(S w->wpAnyH P md ops Q S fuel (listed.setIfInBounds r true) a w)->K' a w)->if Region.wanted o (yielded ops a.tmps)=true then Oper.wp P o a w K' Q else K' (a.put o.dst undef) w):wpAnyH P md ops Q S (fuel+1) listed a w:=
 wpAnyH_ready y (by simp) (AllReadyH.cons z h AllReadyH.nil)
theorem qji{o:Oper}{K:Act->World->Prop}{E:Prop}(I:o.guard=none)(f:FuncId)(xs:Array Operand)(ts:Array TypeId)(D:o.op=Op.call { callee:=Callee.value (.func f),args:=xs,argTypes:=ts })(J:Enters P f)(R:Value->World->Prop)(args:Array Value)(y:xs.map a.eval=args)
  (O:Calls P f args w fun e w'=>∃v,e=.returned v/\R v w') (hK:∀v w',R v w'->K (a.put o.dst v) w'):if Region.wanted o (yielded ops a.tmps)=true then Oper.wp P o a w K Q else E:=by
 have T:Region.wanted o (yielded ops a.tmps)=true:=by simp[Region.wanted,I]
 rw[if_pos T];have z:(execOp a.eval o).run P w=.ok (.enter f args) w:=by
  rw[<-y];simp[execOp,D,resolve,invoke,go_sem];exact J _ _
 unfold Oper.wp;rw[z];refine O.mono ?_;rintro e w' ⟨v,rfl,U⟩;exact hK v w' U
end
end
variable{w w':World}
structure PrAt(w w':World):Prop where
 res:w'.heap[w.heap.size]?=zK #[zN,zI 0] 147
 below:zW w w'
theorem qut(w:World):PrAt w (w.alloc (.cells #[zN,zI 0] 147)):=⟨xF w _,zB _⟩
theorem PrAt.lt(h:PrAt w w'):w.heap.size<w'.heap.size:=(zL h.res)
theorem PrAt.next{w1:World}(h:PrAt w w1)(y:zW w1 w'):PrAt w w':=
 ⟨(y.block _ h.lt).trans h.res,h.below.trans (y.mono h.below.size)⟩
theorem PrAt.facts(h:PrAt w w'):(w'.cell? (zO w.heap.size 0)=some (zN)/\w'.cell? (zO w.heap.size 1)=some (zI 0))/\w'.frozen? (zO w.heap.size 0)=false/\w'.frozen? (zO w.heap.size 1)=false:=by
 have c:=qaa h.res;refine⟨⟨c 0 _ rfl,c 1 _ rfl⟩,?_⟩;simp[World.frozen?,h.res]
theorem qz2(dv v:Value)(D:List Dt)(K:List Pc)(name:zT)(B:Nat)(w:World)(hB:B<=w.heap.size)(hD:DsAt B w dv D)(hK:qzm w dv v K) :
  zC 213 #[v,.string name] w (zR (qe0 dv (qh6 D name.data.toList K)) w):=by
 obtain⟨R,HR⟩:∃R,Hid (qh6 D name.data.toList K=R):=⟨_,rfl⟩;rw[HR.out];have HK:=zH hK;have HD:=zH hD;obtain⟨so,cap,rfl,hl,_⟩:=hK;have he:(K.length:Int)<=9223372036854775807:=by unfold maxLen at hl;omega
 clear hl hD;go_enter func213,ntmps213
 go_wp2
 go_loopw [5] (fun i wr=>∃j:Nat,i=zI ((j:Int) - 1)/\j<=K.length/\Hid (PrAt w wr)/\Hid (qh6 D name.data.toList (K.drop (K.length - j))=R)) (fun i _=>(intOf i+1).toNat)
 case atStart=>exact⟨K.length,by go_num,yg _,qut w,by rw[xz];exact HR.out⟩
 case round=>
  obtain⟨j,rfl,hj,HP,HJ⟩:=hrel;by_cases hc:j=0
  ·subst hc
   have HE:Hid (R=none):=by
    show _=_;rw[<-HJ.out,Nat.sub_zero,List.drop_length];rfl
   obtain⟨⟨r0,r1⟩,f0,f1⟩:=HP.out.facts;clear HJ HR;go_wp2
   rw[HE.out];exact qlt (g:=w.heap.size) results213 rfl rfl (xG _ _ _ _ _ _ (xG _ _ _ _ _ _ HP.out.res)) rfl ⟨rfl,(HP.out.below.setCell (p:=zO w.heap.size 0) (yg _) _).setCell (p:=zO w.heap.size 1) (yg _) _⟩
  ·obtain⟨m,rfl⟩:∃m,j=m+1:=⟨j - 1,by omega⟩
   have hm:m<K.reverse.length:=by rw[List.length_reverse];omega
   obtain⟨p,hp⟩:∃p,K.reverse[m]?=some p:=⟨_,yc hm⟩;have y:K.drop (K.length - (m+1))=p::K.drop (K.length - m):=by
    have h1:K.length - (m+1)<K.length:=by omega
    rw[yo h1,show K.length - (m+1)+1=K.length - m by omega]
    congr 1
    rw[List.getElem?_reverse (by omega)]at hp;have h2:K.length - 1 - m=K.length - (m+1):=by omega
    rw[h2,yc h1]at hp;exact yk hp
   have T:Hid ((match qo1 D p name.data.toList with|some q=>q|none=>qh6 D name.data.toList (K.drop (K.length - m)))=R):=by
    show _=_;have:=HJ.out;rw[y]at this;exact this
   obtain⟨so',cap',U,_,hx⟩:=HK.out;simp only[Value.slice.injEq]at U;obtain⟨b,ha,Ha,z⟩:=hx (fun e=>by rw[e]at hj;simp at hj);have V:so=some (zO b 0):=U.1.trans ha;subst V;obtain⟨d0,d1⟩:=z m p hp;have e0:=(HP.out.below.cell (p:=zO b (m*2)) Ha).trans d0;have e1:=(HP.out.below.cell (p:=zO b (m*2+1)) Ha).trans d1;have I:Hid (zC 214 #[qe0 dv p,.string name] wr (zR (qtf dv (qo1 D p name.data.toList)) wr)):=qyb dv D p name B wr (yh hB HP.out.below.size) (DsAt.below HD.out (HP.out.below.mono hB));have HA:=zH (qgu HD.out);obtain⟨pa,pn,pcap,X⟩:=HA.out p;rw[qdk,X]at I;rw[X]at e0;have He:(m:Int)<(K.length:Int):=by omega
   have hf:(0:Int)<=(m:Int):=by omega
   have Y:((m+1:Nat):Int) - 1=(m:Int):=by omega
   rw[Y];clear z hx d0 d1 HJ y hp hm HR ha U X;cases hr:qo1 D p name.data.toList with
   |none=>
     rw[hr]at I T;have J:Hid (zC 214 #[.agg #[.slice pa pn pcap,zI (pcI p)],.string name] wr (zR (.tuple #[.agg #[zN,zI 0],.bool false]) wr)):=I;clear I hr;go_wp2_with (go_at_call 214;refine xQ J.out ?_;rintro e w' ⟨rfl,hb⟩;have HB:=zH hb;clear hb)
     go_roundw
     case rel=>exact⟨m,by go_num,by omega,(HP.out.next HB.out).next (zB _),T⟩
     case measure=>simp[intOf]
   |some q=>
     rw[hr]at I T;obtain⟨qa,qn,qcap,Z⟩:=HA.out q;have J:Hid (zC 214 #[.agg #[.slice pa pn pcap,zI (pcI p)],.string name] wr (zR (.tuple #[.agg #[.slice qa qn qcap,zI (pcI q)],.bool true]) wr)):=by
      have h:=I.out;show Calls _ _ _ _ _;rw[<-Z,<-qdk];exact h
     have Hc:Hid (qe0 dv R=.agg #[.slice qa qn qcap,zI (pcI q)]):=by
      show _=_;rw[<-T.out,qdk,Z]
     clear I hr Z T;go_wp2_with (go_at_call 214;refine xQ J.out ?_;rintro e w' ⟨rfl,hb⟩;have O:=fun o=>(HP.out.next hb).next (zB o);have Hb:=zH O;have r0:=fun o=>(O o).facts.1.1;have r1:=fun o=>(O o).facts.1.2;have f0:=fun o=>(O o).facts.2.1;have f1:=fun o=>(O o).facts.2.2;clear hb O)
     rw[Hc.out];exact qlt (g:=w.heap.size) results213 rfl rfl (xG _ _ _ _ _ _ (xG _ _ _ _ _ _ (Hb.out _).res)) rfl ⟨rfl,((Hb.out _).below.setCell (p:=zO w.heap.size 0) (yg _) _).setCell (p:=zO w.heap.size 1) (yg _) _⟩
theorem qgw(b:UInt8)(all:zT)(l:zU)(w:World)(y:all.data.toList=l)(h:among b l=true) :
  zC 130 #[.string all,zJ b.toNat] w fun e w'=>∃x:Int,0<=x/\e=.returned (zI x)/\w=w':=by
 refine(strings_IndexByte all b.toNat w).mono ?_;rintro e w' ⟨rfl,rfl⟩;refine⟨_,?_,rfl,rfl⟩;rw[qhs,y];rcases qer l b with⟨a,_⟩|⟨_,a⟩
 ·exact a
 ·rw[h]at a;cases a
theorem qgd(b:UInt8)(all:zT)(l:zU)(w:World)(y:all.data.toList=l)(h:among b l=false) :
  zC 130 #[.string all,zJ b.toNat] w (zQ (zI (-1)) w):=by
 refine(strings_IndexByte all b.toNat w).mono ?_;rintro e w' ⟨rfl,rfl⟩;refine⟨qal ?_,rfl⟩;rw[qhs,y];rcases qer l b with⟨_,a⟩|⟨a,_⟩
 ·rw[h]at a;cases a
 ·exact a
theorem zcq:(prog.info? 5).map (fun i=>(i.zero,i.size,i.bytes))=some (some (zJ 0),1,1):=by kernel_rfl
theorem qiv(s:zT)(w:World)(T:s.size<=100000000) :
  zC 137 #[.string s] w (zQ (zI (qej s.data.toList)) w):=by
 go_enter func137,ntmps137
 go_wp2
 go_loop [7] (fun i=>∃k:Nat,k<=s.size/\i=zI k/\run s.data.toList false=k+run (s.data.toList.drop k) (decide (0<k))) (fun i=>s.size - (intOf i).toNat)
 case atStart=>exact⟨0,yH _,rfl,by simp⟩
 case round=>
  obtain⟨k,U,rfl,V⟩:=hrel;have X:Hid (run s.data.toList false=k+run (s.data.toList.drop k) (decide (0<k))):=V;clear V;by_cases y:k<s.size
  ·by_cases Y:qbl s[k]=true
   ·have z:Hid (among s[k] qjz=true):=by show _=_;rw[<-qxk];exact Y
    go_wp2_with (first|(go_at_call 132;refine(qby s[k] _).mono ?_;rintro e w' ⟨rfl,rfl⟩))
    go_round
    case rel=>exact⟨k+1,by omega,by go_num,by rw[X.out,q4w s k y _ z.out];simp;omega⟩
    case measure=>simp[intOf];omega
   ·have Y:qbl s[k]=false:=by simpa using Y
    have z:Hid (among s[k] qjz=false):=by show _=_;rw[<-qxk];exact Y
    by_cases Z:0<k
    ·have J:((k:Int)==0)=false:=yf.2 (by omega)
     by_cases hc:s[k].toNat=58
     ·have hd:Hid (among s[k] qes=false):=by
       have:s[k]=58:=UInt8.toNat_inj.1 (by simpa using hc);show _=_;rw[this];decide
      have he:Hid (run s.data.toList false=k):=by show _=_;rw[X.out,q2s s k y _ z.out hd.out];rfl
      have hv:Hid (qej s.data.toList=k):=qk8 _ _ (q0i s k he.out Z y hc);have O:((s[k].toNat:Int)==58)=true:=yF.2 (by omega);clear hc;go_wp2_with (first|(go_at_call 132;refine(qby s[k] _).mono ?_;rintro e w' ⟨rfl,rfl⟩))
      go_ret
      exact⟨qal (by rw[hv.out]),rfl⟩
     ·have O:((s[k].toNat:Int)==58)=false:=yf.2 (by omega)
      by_cases hd:qea s[k]=true
      ·have D:Hid (among s[k] qes=true):=by show _=_;rw[<-qvu,hd];rfl
       have I:Hid (decide (0<k)=true):=by show _=_;simpa using Z
       clear hc;go_wp2_with (first|(go_at_call 132;refine(qby s[k] _).mono ?_;rintro e w' ⟨rfl,rfl⟩)|(go_at_call 102;refine(qde s[k] _).mono ?_;rintro e w' ⟨rfl,rfl⟩))
       go_round
       case rel=>exact⟨k+1,by omega,by go_num,by rw[X.out,I.out,qwx s k y D.out];simp;omega⟩
       case measure=>simp[intOf];omega
      ·have hd:qea s[k]=false:=by simpa using hd
       by_cases hp:among s[k] [43,45,46]=true
       ·have D:Hid (among s[k] qes=true):=by show _=_;rw[<-qvu,hd,hp];rfl
        have I:Hid (decide (0<k)=true):=by show _=_;simpa using Z
        clear hc;go_wp2_with (first|(go_at_call 132;refine(qby s[k] _).mono ?_;rintro e w' ⟨rfl,rfl⟩)|(go_at_call 102;refine(qde s[k] _).mono ?_;rintro e w' ⟨rfl,rfl⟩)|(go_at_call 130;refine(qgw s[k] _ [43,45,46] _ rfl hp).mono ?_;rintro e w' ⟨x,hx,rfl,rfl⟩))
        go_round
        case rel=>exact⟨k+1,by omega,by go_num,by rw[X.out,I.out,qwx s k y D.out];simp;omega⟩
        case measure=>simp[intOf];omega
       ·have hp:among s[k] [43,45,46]=false:=by simpa using hp
        have D:Hid (among s[k] qes=false):=by show _=_;rw[<-qvu,hd,hp];rfl
        have he:Hid (run s.data.toList false=k):=by show _=_;rw[X.out,q2s s k y _ z.out D.out];rfl
        have hv:Hid (qej s.data.toList=-1):=qf7 _ (q4s s k he.out y hc);clear hc;go_wp2_with (first|(go_at_call 132;refine(qby s[k] _).mono ?_;rintro e w' ⟨rfl,rfl⟩)|(go_at_call 102;refine(qde s[k] _).mono ?_;rintro e w' ⟨rfl,rfl⟩)|(go_at_call 130;refine(qgd s[k] _ [43,45,46] _ rfl hp).mono ?_;rintro e w' ⟨rfl,rfl⟩))
        go_ret
        exact⟨qal (by rw[hv.out]),rfl⟩
    ·have J:((k:Int)==0)=true:=yF.2 (by omega)
     have he:Hid (run s.data.toList false=0):=by
      obtain rfl:k=0:=by omega
      show _=_;rw[X.out];exact(xf _).trans (q74 s 0 y z.out)
     have hv:Hid (qej s.data.toList=-1):=qf7 _ (qwt _ he.out);go_wp2_with (first|(go_at_call 132;refine(qby s[k] _).mono ?_;rintro e w' ⟨rfl,rfl⟩))
     go_ret
     exact⟨qal (by rw[hv.out]),rfl⟩
  ·have he:Hid (run s.data.toList false=k):=by show _=_;rw[X.out,zbq s k y];rfl
   have hv:Hid (qej s.data.toList=-1):=qf7 _ (qwu s k he.out y);go_wp2
   go_ret
   exact⟨qal (by rw[hv.out]),rfl⟩
theorem q8y(n:Nat):(madeCells (Value.int .u8 0).cells (n*1)).toList=List.replicate n (zJ 0):=by
 rw[Nat.mul_one];exact toList_madeCells_one (zJ 0) n
theorem ze6(x:List Value)(n k:Nat)(z u:Value)(y:x.length=k)(h:k<n):(x++List.replicate (n - k) z).set k u=(x++[u])++List.replicate (n - (k+1)) z:=by
 subst y;rw[List.set_append_right _ _ (yg _),xz,show n - x.length=(n - (x.length+1))+1 by omega,List.replicate_succ,List.set_cons_zero,yq];rfl
theorem zax(s:zT)(w:World)(hs:s.size<=100000000) :
  zC 187 #[.string s] w (zR (.string ⟨(qfc s.data.toList).toArray⟩) w):=by
 obtain⟨i0,hi,V,X,Y⟩:=info_parts zcq;go_enter func187,ntmps187
 go_wp2_with (at_make;refine wpList_make_full _ rfl _ _ 82 rfl w.heap.size 5 i0 (zJ 0) 1 underlying82 hi V X .i64 .i64 _ _ s.size rfl rfl rfl rfl (by rw[Y];omega) (by unfold maxLen;omega) (yg _) ?_;intro w1 y J)
 rw[q8y]at y;have O:zW w w1:=(xL _ _).grown J (yg _) (fun k h=>by cases h);clear J;go_loopw [4,10] (fun _ i wr=>∃k:Nat,k<=s.size/\i=zI k/\wr.ownsRow w.heap.size 5 1 (zF w.heap.size s.size s.size) s.size (Lib.byteCells (qfc (s.data.toList.take k))++List.replicate (s.size - k) (zJ 0))/\zW w wr) (fun _ i _=>s.size - (intOf i).toNat)
 case atStart=>exact⟨0,yH _,rfl,by simpa [qfc,Lib.byteCells]using y,O⟩
 case round=>
  obtain⟨k,hk,rfl,z,I⟩:=hrel;clear y O;by_cases T:k<s.size
  ·have hz:=I.size
   have D:(Lib.byteCells (qfc (s.data.toList.take k))).length=k:=by rw[qv0];unfold qfc;rw[yR,q2m s k hk]
   have Z:wr.cell? (zO w.heap.size k)=some (zJ 0):=by
    rw[z.cellAt k (by omega),yt (by omega),D];rw[xz,List.getElem?_replicate,if_pos (by omega)]
   have ha:=z.frozenAt k;have HT:Hid (Lib.byteCells (qfc (s.data.toList.take (k+1)))=Lib.byteCells (qfc (s.data.toList.take k))++[zJ (small s[k]).toNat]):=by
    show _=_;rw[qdn s k T,show qfc (s.data.toList.take k++[s[k]])=qfc (s.data.toList.take k)++[small s[k]] by simp[qfc],qkb]
   go_wp2_with (go_at_call 131;refine(qja s[k] _).mono ?_;rintro e w' ⟨rfl,rfl⟩)
   have U:=z.stored k (zJ (small s[k]).toNat);rw[ze6 _ _ _ _ _ D T]at U;go_roundw
   case rel=>
    refine⟨k+1,by omega,by go_num,?_,I.setCell (p:=zO w.heap.size k) (yg _) _⟩;rw[HT.out];exact U.1
   case measure=>simp[intOf];omega
  ·have e:(qfc s.data.toList).length=s.size:=by unfold qfc;rw[yR];rfl
   rw[qeo s k (by omega),show s.size - k=0 by omega,List.replicate_zero,yw]at z;have Ha:=zdh (P:=prog) wr 82 9 5 underlying82 underlying5 underlying9 w.heap.size _ (qfc s.data.toList) (by rw[e];exact z);clear e;go_wp2
   go_ret
   exact⟨rfl,I⟩
def q1l:zU:=[104,116,116,112]
def qq5:zU:=[104,116,116,112,115]
def qlw:zU:=[109,97,105,108,116,111]
def q29(l:zU):Bool:=qfc l==q1l || (qfc l==qq5 || qfc l==qlw)
theorem qtb(s:zT)(w:World)(J:s.size<=100000000)(O:Tabs w) :
  zC 138 #[.string s] w (zR (.bool (q29 s.data.toList)) w):=by
 have T:Hid (q29 s.data.toList=(qfc s.data.toList==q1l || (qfc s.data.toList==qq5 || qfc s.data.toList==qlw))):=rfl;generalize U:qfc s.data.toList=p at T;have V:Hid (qfc s.data.toList=p):=U;clear U;have i0:∀w,(Instr.index 294 (.agg qig) (zI 0)).run prog w=.ok (.string ⟨#[104,116,116,112]⟩) w:=fun _=>by kernel_rfl
 have i1:∀w,(Instr.index 294 (.agg qig) (zI 1)).run prog w=.ok (.string ⟨#[104,116,116,112,115]⟩) w:=fun _=>by kernel_rfl
 have i2:∀w,(Instr.index 294 (.agg qig) (zI 2)).run prog w=.ok (.string ⟨#[109,97,105,108,116,111]⟩) w:=fun _=>by kernel_rfl
 go_enter func138,ntmps138
 go_wp2_with fail
 refine(zax s _ J).mono ?_;rintro e w1 ⟨rfl,D⟩;have I:=O.kept D O.lt;rw[V.out];go_wp2_with (refine qib rfl 294 _ rfl 7 rfl qig _ I.1 underlying294 rfl (by kernel_rfl) ?_)
 go_loopw [5,9] (fun _ i wr=>∃k:Nat,k<=3/\i=zI k/\(1<=k->(p==q1l)=false)/\(2<=k->(p==qq5)=false)/\(3<=k->(p==qlw)=false)/\zW w wr) (fun _ i _=>3 - (intOf i).toNat)
 case atStart=>exact⟨0,by omega,rfl,by omega,by omega,by omega,D⟩
 case round=>
  obtain⟨k,X,rfl,Y,Z,h3,z⟩:=hrel;have H1:Hid (1<=k->(p==q1l)=false):=Y;have H2:Hid (2<=k->(p==qq5)=false):=Z;have H3:Hid (3<=k->(p==qlw)=false):=h3;clear Y Z h3;rcases(show k=0\/k=1\/k=2\/k=3 by omega)with rfl|rfl|rfl|rfl
  ·by_cases hq:(p==q1l)=true
   ·have y:(p==[104,116,116,112])=true:=hq
    clear hq;go_wp2
    go_ret
    exact⟨qas (by rw[T.out];show true=((p==[104,116,116,112]) || _);rw[y];rfl),z⟩
   ·have hq:(p==q1l)=false:=by simpa using hq
    have HQ:Hid ((p==q1l)=false):=hq;have y:(p==[104,116,116,112])=false:=hq;clear hq;go_wp2
    go_roundw
    case rel=>exact⟨1,by omega,rfl,fun _=>HQ.out,by omega,by omega,z⟩
    case measure=>simp[intOf]
  ·by_cases hq:(p==qq5)=true
   ·have y:(p==[104,116,116,112,115])=true:=hq
    clear hq;go_wp2
    go_ret
    exact⟨qas (by rw[T.out];show true=(_ || ((p==[104,116,116,112,115]) || _));rw[y];simp),z⟩
   ·have hq:(p==qq5)=false:=by simpa using hq
    have HQ:Hid ((p==qq5)=false):=hq;have y:(p==[104,116,116,112,115])=false:=hq;clear hq;go_wp2
    go_roundw
    case rel=>exact⟨2,by omega,rfl,fun _=>H1.out (by omega),fun _=>HQ.out,by omega,z⟩
    case measure=>simp[intOf]
  ·by_cases hq:(p==qlw)=true
   ·have y:(p==[109,97,105,108,116,111])=true:=hq
    clear hq;go_wp2
    go_ret
    exact⟨qas (by rw[T.out];show true=(_ || (_ || (p==[109,97,105,108,116,111])));rw[y];simp),z⟩
   ·have hq:(p==qlw)=false:=by simpa using hq
    have HQ:Hid ((p==qlw)=false):=hq;have y:(p==[109,97,105,108,116,111])=false:=hq;clear hq;go_wp2
    go_roundw
    case rel=>exact⟨3,by omega,rfl,fun _=>H1.out (by omega),fun _=>H2.out (by omega),fun _=>HQ.out,z⟩
    case measure=>simp[intOf]
  ·go_wp2
   go_ret
   exact⟨qas (by rw[T.out,H1.out (by omega),H2.out (by omega),H3.out (by omega)];rfl),z⟩
namespace Pl
def qbm:List (Int×zU×zU):=[
 (1,[38],[38,97,109,112,59]),(1,[60],[38,108,116,59]),(1,[62],[38,103,116,59]),(1,[34],[38,113,117,111,116,59]),(1,[39],[38,35,51,57,59]),
 (4,[226,128,168],[92,117,50,48,50,56]),(4,[226,128,169],[92,117,50,48,50,57])]
def fits(kd:Int)(l:zU)(x:Int×zU×zU):Bool:=x.1==kd && x.2.1.isPrefixOf l
def qey(kd:Int)(l:zU):zU×zU:=((qbm.find? (fits kd l)).map (·.2)).getD ([],[])
theorem qdd(kd:Int)(l:zU)(k:Nat)(x:Int×zU×zU)(y:qbm[k]?=some x)(z:(qbm.take k).find? (fits kd l)=none)(D:fits kd l x=false):(qbm.take (k+1)).find? (fits kd l)=none:=by
 have I:k<qbm.length:=(yb.1 y).1;rw[yB I,List.find?_append,z];have:qbm[k]=x:=by
  rw[yc I]at y;exact yk y
 rw[this];simp[List.find?,D]
theorem qhf(kd:Int)(l:zU)(k:Nat)(x:Int×zU×zU)(y:qbm[k]?=some x)(z:(qbm.take k).find? (fits kd l)=none)(D:fits kd l x=true):qey kd l=x.2:=by
 have I:k<qbm.length:=(yb.1 y).1;have e:qbm[k]=x:=by
  rw[yc I]at y;exact yk y
 have h:qbm=qbm.take k++x::qbm.drop (k+1):=by
  rw[<-e,<-yo I,yu]
 unfold qey;rw[h,List.find?_append,z];simp[List.find?,D]
theorem q9q(kd:Int)(l:zU)(y:(qbm.take 7).find? (fits kd l)=none):qey kd l=([],[]):=by
 unfold qey;rw[show qbm=qbm.take 7 from rfl,y];rfl
end Pl
end Go.Proofs.YtfkhljmiehdgmaaGreatDoor
