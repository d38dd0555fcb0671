/-
  Steps of the proof.
-/
import Derived.Test.YtfkhljmiehdgmaaGreatDoorCuAV
import Derived.Test.YtfkhljmiehdgmaaGreatDoorCuAY
import Derived.Test.YtfkhljmiehdgmaaGreatDoorCuAU
import Derived.Test.YtfkhljmiehdgmaaGreatDoorCuAX
import Derived.Test.YtfkhljmiehdgmaaGreatDoorCuAZ
set_option maxRecDepth 100000
set_option maxHeartbeats 40000000
namespace Go.Proofs.YtfkhljmiehdgmaaGreatDoor
open Go.RowKit Go.Proofs.Tryz Pl
variable{w w0 w':World}{B g:Nat}{c:Ct}{vp vo:Value}
theorem CtAt.delims{t:zU}(h:CtAt w B g t c vp vo)(op cl:zU) :
  CtTo w ((w.setCell (zO g 1) (bs op)).setCell (zO g 2) (bs cl)) B g t { c with op:=op,cl:=cl }:=by
 have ha:∀k,k≠g->((w.setCell (zO g 1) (bs op)).setCell (zO g 2) (bs cl)).heap[k]?=w.heap[k]?:=fun k hk=>(xL _ _ _ _ hk).trans (xL _ _ _ _ hk);refine⟨⟨vp,vo,?_,?_,?_,h.le⟩,?_,fun k cs ty fz hk h1 h2 h3=>ha k h1⟩
 ·rw[xH _ _ _ _ _ _ (xH _ _ _ _ _ _ h.blk)];rfl
 ·refine qab h.parts fun k hk=>ha k ?_
  obtain⟨cur,hc⟩:=qac h.parts k hk;exact fun e=>qae h.blk hc qf0 e.symm
 ·refine qab h.opened fun k hk=>ha k ?_
  obtain⟨cur,hc⟩:=qac h.opened k hk;exact fun e=>qae h.blk hc qic e.symm
 ·exact((xM _ _).setCell (p:=zO g 1) h.le _).setCell (p:=zO g 2) h.le _
theorem CtTo.after{t:zU}(hc:Cur B g w w0)(h:CtTo w0 w' B g t c):CtTo w w' B g t c:=⟨h.ex,hc.trans h.cur⟩
theorem CtAt.pushAt{t:zU}{vo':Value}(h:CtAt w B g t c vp vo)(Ha:zW w w0)(n:Nat)(ha:w'.ownsRow B 3 1 vo' (c.opened.length+1) (qb0 c.opened++[zI n]))(hb:w0.grownBy w' vo.ownBlock) :
  CtAt (w'.setCell (zO g 4) vo') B g t { c with opened:=c.opened++[n] } vp vo'/\Cur B g w (w'.setCell (zO g 4) vo')/\∀k x,w0.heap[k]?=some x->w.heap.size<=k->(w'.setCell (zO g 4) vo').heap[k]?=some x:=by
 obtain⟨h1,h2⟩:=(h.below Ha).push n ha hb;refine⟨h1,(Cur.of_below Ha (yh h.le (yj h.lt))).trans h2,fun k x hk Hb=>?_⟩;refine(xL _ _ _ _ (by have:=h.lt;simp only;omega)).trans ((hb.block k (ya.1 hk).1 (fun e=>?_)).trans hk);have:=(h.opened.lt k e.symm).2;omega
theorem qz5(w:World)(B g:Nat)(t:zU)(c:Ct)(vp vo:Value)(h:CtAt w B g t c vp vo)(n op cl:zU)(a:Nat) :
  zC 152 #[zP g,qeh ⟨8,0,n,op,cl⟩,zI a] w fun e w'=>e=.returned (zI (0:Nat))/\CtTo w w' B g t { c with op:=op,cl:=cl }:=by
 have b1:=h.two 1 _ rfl;have b2:=h.two 2 _ rfl;have f1:=h.two' 1;have f2:=h.two' 2;have ha:B<=w.heap.size:=by have:=h.lt;have:=h.le;omega
 have H:=zH h;clear h;unfold qeh bs at *;go_enter func152,ntmps152
 go_wp2
 go_region
 all_goals
  go_wp2
  go_ret
  have hb:=(((xM w.heap.size w).alloc (yg _) (.cells #[zI 8,zI 0,zV n,zV op,zV cl] 274)).alloc (by simp) (.cells #[zI 8,zI a,zV n,zI 0] 229)).drew
  first
   |exact⟨rfl,CtTo.after (Cur.of_below hb ha) (CtAt.delims (CtAt.below H.out hb) op cl)⟩
   |exact⟨rfl,CtTo.after (Cur.of_below hb ha) (CtAt.delims' (CtAt.below H.out hb) op cl)⟩
theorem q7g(w:World)(o:Obj)(g:Nat)(h:w.heap.size=g):(w.alloc o).heap[g]?=some o:=by
 subst h;exact xG w o
variable{w:World}{B g:Nat}{c:Ct}
theorem CtAt.mated{gp N capp:Nat}{t:zU}{vo:Value}(h:CtAt w B g t c (zF gp N capp) vo)(m n:Nat)(hm:m<c.parts.length) :
  CtAt (w.setCell (zO gp (m*4+3)) (zI n)) B g t { c with parts:=qbd c.parts m n } (zF gp N capp) vo/\Cur B g w (w.setCell (zO gp (m*4+3)) (zI n)):=by
 have ha:∀k,k≠gp->(w.setCell (zO gp (m*4+3)) (zI n)).heap[k]?=w.heap[k]?:=fun k hk=>xL _ _ _ _ hk;obtain⟨cur,hc⟩:=qac h.parts gp rfl;have Ha:=(h.parts.lt gp rfl).1;refine⟨⟨(ha g (qae h.blk hc qf0)).trans h.blk,?_,?_,h.le⟩,?_,?_⟩
 ·have hs:(qbd c.parts m n).length=c.parts.length:=qit _ _ _
  have hN:N=c.parts.length:=by
   rcases h.parts.2 with⟨h0,_⟩|⟨g',cap',cur',hv,_⟩
   ·cases h0
   ·injection hv
  subst hN;show World.ownsRow _ _ _ _ _ (qbd c.parts m n).length (qbp (qbd c.parts m n));rw[hs,<-qoh _ _ _ hm];exact(h.parts.stored (m*4+3) (zI n)).1
 ·refine qab h.opened fun k hk=>ha k ?_
  obtain⟨cur',hb⟩:=qac h.opened k hk;exact fun e=>qae hc hb qli e.symm
 ·exact(xM _ _).setCell (p:=zO gp (m*4+3)) Ha _
 ·intro k cs ty fz hk h1 h2 h3
  exact ha k (qae hk hc h2)
theorem CtAt.popped{go capo:Nat}{t:zU}{vp:Value}{M:Nat}(h:CtAt w B g t c vp (zF go M capo))(k:Nat)(hk:c.opened.length=k+1) :
  CtAt (w.setCell (zO g 4) (zF go k capo)) B g t { c with opened:=c.opened.dropLast } vp (zF go k capo)/\Cur B g w (w.setCell (zO g 4) (zF go k capo)):=by
 have ha:∀k',k'≠g->(w.setCell (zO g 4) (zF go k capo)).heap[k']?=w.heap[k']?:=fun k' Ha=>xL _ _ _ _ Ha;have hM:M=c.opened.length:=by
  rcases h.opened.2 with⟨h0,_⟩|⟨g',cap',cur',hv,_⟩
  ·cases h0
  ·injection hv
 subst hM;have ht:=qjt h.opened k (by omega);have e1:(qb0 c.opened).take (k*1)=qb0 c.opened.dropLast:=by
  rw[Nat.mul_one,List.dropLast_eq_take,show c.opened.length - 1=k by omega];simp[qb0]
 have e2:c.opened.dropLast.length=k:=by simp;omega
 rw[e1]at ht;refine⟨⟨?_,?_,?_,h.le⟩,?_,fun k' cs ty fz Ha h1 _ _=>ha k' h1⟩
 ·rw[xH _ _ _ _ _ _ h.blk];rfl
 ·refine qab h.parts fun k' Ha=>ha k' ?_
  obtain⟨cur',hb⟩:=qac h.parts k' Ha;exact fun e=>qae h.blk hb qf0 e.symm
 ·show World.ownsRow _ _ _ _ _ c.opened.dropLast.length (qb0 c.opened.dropLast)
  rw[e2];refine qab ht fun k' Ha=>ha k' ?_;obtain⟨cur',hb⟩:=qac ht k' Ha;exact fun e=>qae h.blk hb qic e.symm
 ·exact(xM _ _).setCell (p:=zO g 4) h.le _
theorem qy6{a b:zU}(h:a≠b):((⟨a.toArray⟩:zT).toList==(⟨b.toArray⟩:zT).toList)=false:=by
 rw[Lib.toList_data,Lib.toList_data];exact yf.2 (by simpa using h)
theorem quh(w:World)(B g:Nat)(t:zU)(c:Ct)(vp vo:Value)(h:CtAt w B g t c vp vo)(n op cl:zU)(a k m:Nat)(hk:c.opened.length=k+1)(hm:c.opened[k]?=some m)(p:Pt)(hp:c.parts[m]?=some p)(ha:p.text≠n)(h6:c.opened.length<=6) :
  zC 152 #[zP g,qeh ⟨5,0,n,op,cl⟩,zI a] w fun e w'=>e=.returned (zI (6:Nat))/\CtTo w w' B g t c:=by
 have Ha:m<c.parts.length:=(yb.1 hp).1;obtain⟨go,capo,hb,_,_⟩:=qai h.opened (by omega);obtain⟨gp,capp,Hb,_,_⟩:=qai h.parts (by omega);subst hb Hb;have b3:=h.two 3 _ rfl;have b4:=h.two 4 _ rfl;have q4:∀o o',((w.alloc o).alloc o').cell? (zO go k)=some (zI m):=fun o o'=>qcs ((h.alloc o).alloc o').opened k _ (qlu _ _ _ hm);have q2:∀o o',((w.alloc o).alloc o').cell? (zO gp (m*4+2))=some (.string ⟨p.text.toArray⟩):=fun o o'=>qcs ((h.alloc o).alloc o').parts _ _ (qeq _ _ _ hp 2 _ rfl);have w1:IntKind.i64.wrap (k:Int)=k:=qo4 k (by omega);have d1:(m:Int)<(c.parts.length:Int):=by omega
 have e1:=qy6 ha;have H:=zH h;rw[hk]at b4;clear h hp hm;unfold qeh bs;generalize (⟨p.text.toArray⟩:zT)=X at q2 e1;generalize (⟨n.toArray⟩:zT)=Y at e1 |-;generalize hN:c.parts.length=N at b3 d1;clear hN Ha h6 ha;go_enter func152,ntmps152
 go_wp2
 go_region
 all_goals
  go_wp2
  go_ret
  exact⟨rfl,H.out.to ((zB _).alloc (by simp) _).drew⟩
variable{w w0:World}{p:Sp}{k:Nat}
theorem Pl.spFromSnoc(p:Sp)(l:zU)(b:UInt8):qei p (l++[b])=(qei p l).next b:=by simp[qei]
theorem Pl.spFromOk(l:zU):∀(p:Sp) (n:Nat),SpOk n p->SpOk (n+l.length) (qei p l):=by
 induction l with
 |nil=>intro p n h;exact h
 |cons x l ih=>
   intro p n h;have:=ih _ _ (zfi h x);rw[show n+(x::l).length=n+1+l.length by simp;omega];exact this
def Pl.wrongFrom(p:Sp)(g:Int)(i:Nat):zU->Int
 |[]=>g
 |b::l=>wrongFrom (p.next b) (if g<0/\b=58/\p.view.link=4 then i else g) (i+1) l
theorem Pl.wrongFrom_snoc(l:zU):∀(p:Sp) (g:Int) (i:Nat) (b:UInt8),wrongFrom p g i (l++[b])=if wrongFrom p g i l<0/\b=58/\(qei p l).view.link=4 then((i+l.length:Nat):Int)else wrongFrom p g i l:=by
 induction l with
 |nil=>intro p g i b;rfl
 |cons x l ih=>
   intro p g i b;show wrongFrom (p.next x) _ (i+1) (l++[b])=_;rw[ih,show i+1+l.length=i+(x::l).length by simp;omega];rfl
theorem qov{g:Nat}(h:SpAt w g p)(hg:g<w.heap.size)(o:Obj):SpAt (w.alloc o) g p:=h.kept ((xM _ w).alloc (yg _) o) hg
structure ThRound(w0 w:World)(p:Sp)(s:zT)(k:Nat):Prop where
 at':SpAt w w0.heap.size (qei p (s.data.toList.take k))
 slot:qfu w w0.heap.size
 res:qfu w (w0.heap.size+1)
 below:zW w0 w
 far:w0.heap.size+1<w.heap.size
theorem ThRound.spot{s:zT}(h:ThRound w0 w p s k){w2:World}(hb:zW w w2):ThRound w0 w2 p s k:=
 ⟨h.at'.kept hb h.slot.lt,h.slot.kept hb h.slot.lt,h.res.kept hb h.far,h.below.trans (hb.mono (yj (Nat.lt_of_le_of_lt (Nat.le_succ _) h.far))),yi h.far hb.size⟩
theorem ThRound.set{s:zT}(h:ThRound w0 w p s k)(Y:Sp)(hY:qei p (s.data.toList.take (k+1))=Y) :
  ThRound w0 (set6 w w0.heap.size (zI Y.mode) (zV Y.tag) (zV Y.attr) (zV Y.inside) (zV Y.run) (zI Y.far)) p s (k+1):=by
 have hb:=qb9 (xM w0.heap.size w) (yg _) (zI Y.mode) (zV Y.tag) (zV Y.attr) (zV Y.inside) (zV Y.run) (zI Y.far);have hc:=qky h.slot (zI Y.mode) (zV Y.tag) (zV Y.attr) (zV Y.inside) (zV Y.run) (zI Y.far);refine⟨by rw[hY];exact⟨hc 0 _ rfl,hc 1 _ rfl,hc 2 _ rfl,hc 3 _ rfl,hc 4 _ rfl,hc 5 _ rfl⟩,q4q h.slot _ _ _ _ _ _,?_,h.below.trans hb,yi h.far hb.size⟩;obtain⟨cs,t,hg,hn⟩:=h.res;refine⟨cs,t,?_,hn⟩;unfold set6;have ne:∀j,w0.heap.size+1≠((zO w0.heap.size j):Addr).block:=fun j=>by show w0.heap.size+1≠w0.heap.size;omega
 rw[xL _ _ _ _ (ne 5),xL _ _ _ _ (ne 4),xL _ _ _ _ (ne 3),xL _ _ _ _ (ne 2),xL _ _ _ _ (ne 1),xL _ _ _ _ (ne 0)];exact hg
theorem ThRound.drew{s:zT}(h:ThRound w0 w p s k):ThRound w0 w.drew p s k:=⟨⟨h.at'.mode,h.at'.tag,h.at'.attr,h.at'.inside,h.at'.run,h.at'.far⟩,h.slot.drew,h.res.drew,h.below.drew,h.far⟩
theorem qjd{P:Program}{fn:Func}{u p:Tmp}{ty:TypeId}(h:fn.results=#[.cell p ty,.tmp u])(tmps:Array Value)(w:World)(g:Nat)(cs:Array Value)(d:TypeDesc)(hp:tmps.getD p undef=zP g)
  (hg:∀j v,cs.toList[j]?=some v->w.cell? (zO g j)=some v)
  (hu:P.underlying ty=some d) (hd:aggD d=true) (hi:(P.info? ty).map (·.size)=some cs.size) :
  (results fn tmps).run P w=.ok (.tuple #[.agg cs,tmps.getD u undef]) w:=by
 have hl:=qbb (P:=P) w g ty cs d hg hu (by cases d<;>first|rfl|cases hd) hi
 rw[yZ]at hp;simp only[results,h];simp[hp,asAddr,hl]
theorem behC(HB:qhp)(S:List Src)(hS:SrcsOk S):∀k,BehC S k:=by
 intro k
 induction k with
 |zero=>
   intro w B F vv s n x h ho hk;have:=ho.few;omega
 |succ k ih=>
   intro w B F vv s n x h ho hk hx hn ht;have hB:B<=w.heap.size:=by
    have h1:=h.le.1;have h2:=(zL h.blk);omega
   unfold behV;by_cases h0:qaj S n=0
   ·rw[if_pos h0]
    exact qv4 S hS w B F vv s n x h hn hB h0
   rw[if_neg h0];cases hy:qa9 s.ends (qaj S n,x)with
   |some y=>exact qza S hS w B F vv s n x h ho hx hn hB ht h0 y hy
   |none=>
     simp only;by_cases hf:s.ends.length=256
     ·rw[if_pos hf]
      exact q2d S hS w B F vv s n x h ho hx hn hB ht h0 hy hf
     ·rw[if_neg hf]
      exact q6q HB S hS k ih w B F vv s n x h ho hx hn hB ht h0 hy hk hf _ rfl
theorem qzu(n:Int)(v:Vw)(w:World) :
  zC 57 #[zN,qfv n v] w (zR (.bool false) w):=by
 have HB:Hid (zW w (w.alloc (.cells (qcj n v) 143))):=zB _;unfold qfv;unfold qcj at HB;go_enter func57,ntmps57
 go_wp2
 generalize w.alloc _=W0 at HB |-;go_loopw [5] (fun i wr=>i=zI 0/\wr=W0) (fun _ _=>0)
 case atStart=>exact⟨rfl,rfl⟩
 case round=>
  obtain⟨rfl,rfl⟩:=hrel;go_wp2
  go_ret
  exact⟨rfl,HB.out⟩
structure PartsAt(w:World)(g B:Nat)(N:List zT):Prop where
 head:∃c:Nat,w.cell? (zO g 1)=some (zF B N.length c)
 name:∀i x,N[i]?=some x->w.cell? (zO B (i*2))=some (.string x)
def qv8(x:zT)(N:List zT)(r:Int):Prop:=(∃k:Nat,r=k/\N[k]?=some x/\∀j:Nat,j<k->¬N[j]?=some x)\/(r=-1/\∀j:Nat,¬N[j]?=some x)
theorem zbz(g B:Nat)(N:List zT)(x:zT)(w:World)(hN:N.length<=100000)(h:PartsAt w g B N) :
  zC 56 #[zP g,.string x] w fun e w'=>(∃r:Int,e=.returned (zI r)/\qv8 x N r)/\w'=w:=by
 obtain⟨c,hd⟩:=h.head;have HA:=(show Hid (PartsAt w g B N)from h);clear h;go_enter func56,ntmps56
 go_wp2
 go_loopw [5] (fun i wr=>∃k:Nat,k<=N.length/\i=zI k/\Hid (∀j:Nat,j<k->¬N[j]?=some x)/\wr=w) (fun i _=>N.length - (intOf i).toNat)
 case atStart=>exact⟨0,yH _,rfl,fun j hj=>absurd hj (xb _),rfl⟩
 case round=>
  obtain⟨k,hk,rfl,HN,rfl⟩:=hrel;by_cases ha:k<N.length
  ·have hx:N[k]?=some N[k]:=yc ha
   have q0:=HA.out.name k _ hx;have HX:=(show Hid (N[k]?=some N[k])from hx);clear hx HA;generalize N[k]=X at q0 HX;by_cases e0:X=x
   ·have HF:Hid (qv8 x N (k:Int)):=.inl ⟨k,rfl,by rw[HX.out,e0],HN.out⟩
    clear HX HN;subst e0;go_wp2
    go_ret
    exact⟨⟨_,rfl,HF.out⟩,rfl⟩
   ·have HD:Hid (∀j:Nat,j<k+1->¬N[j]?=some x):=by
     intro j hj q;by_cases Ha:j=k
     ·subst Ha;rw[HX.out]at q;exact e0 (yk q)
     ·exact HN.out j (by omega) q
    have c0:(X.toList==x.toList)=false:=by
     rw[yf,yW,yW];exact fun q=>e0 (xj (Array.toList_inj.1 q))
    clear HX HN e0;go_wp2
    go_roundw
    case rel=>exact⟨k+1,by omega,by go_num,HD,trivial⟩
    case measure=>simp[intOf];omega
  ·have hb:k=N.length:=by omega
   have HF:Hid (qv8 x N (-1)):=.inr ⟨rfl,fun j q=>by
    have hj:j<N.length:=(yb.1 q).1;exact HN.out j (by omega) q⟩
   subst hb;clear HN HA;go_wp2
   go_ret
   exact⟨⟨_,rfl,HF.out⟩,rfl⟩
theorem qum(p:Sp)(m:Nat)(b:UInt8)(w:World)(He:p.mode=m)(hm:m<=33)(ht:p.tag.length<=1000)(ha:p.attr.length<=1000)(hi:p.inside.length<=1000)(hf:p.run.length<=2000000000000000000) :
  zC 122 #[qaz p,zJ b.toNat] w (zR (qaz (p.element m b)) w):=by
 have Hb:=fun w=>q2t p w ht hi;have hS:=fun w=>qsm ⟨m,p.tag,p.attr,qce (p.inside++[b]),p.run,p.far⟩ m b w rfl hm ht ha hf;have hl:(qcr p.tag).length=p.tag.length+2:=rfl
 have hV:p.element m b=if(((p.read:Int)==(p.tag.length:Int)+2) && among b qdl)=true then(if b=62 then Sp.start else⟨12,[],[],[],[],0⟩)
   else if(qca m && (qdz (qbg m) p.run==1))=true then⟨m,p.tag,p.attr,qce (p.inside++[b]),p.run++[b],p.far⟩
   else if m=19 then⟨m,p.tag,p.attr,qce (p.inside++[b]),kept m (p.run++[b]),p.far⟩
   else(Sp.mk m p.tag p.attr (qce (p.inside++[b])) p.run p.far).step m b:=by
  unfold Sp.element;rw[hl];have hc:p.read=p.tag.length+2↔(p.read:Int)=(p.tag.length:Int)+2:=⟨by omega,by omega⟩;simp only[hc,yL,yF]
 generalize (Sp.mk m p.tag p.attr (qce (p.inside++[b])) p.run p.far).step m b=N at hS hV;generalize p.element m b=V at hV |-;generalize hQ:(fun(e:Ending) (w':World)=>e=.returned (qaz V)/\zW w w')=Q;have H0:=zH (Sp2.start w p);have HF:Hid (∀(wx:World) (q:Sp) (a:Act),wx.heap[w.heap.size+1]?=zK (qan ⟨0,[],[],[],[],0⟩) 94->zW w wx->V=q->a.tmps.getD 4 undef=zP (w.heap.size+1)->a.defers=[]->bodyPost prog f122 Q .ret a (set6 wx (w.heap.size+1) (zI q.mode) (zV q.tag) (zV q.attr) (zV q.inside) (zV q.run) (zI q.far))):=by
  intro wx q a h hl e h4 hd;refine qfs results122 (w.heap.size+1) _ underlying94 rfl (by kernel_rfl) h4 ⟨_,_,h,rfl⟩ hd _ _ _ _ _ _ ?_;rw[<-hQ,e];exact⟨rfl,qb9 hl (by omega) _ _ _ _ _ _⟩
 clear hQ;have HV:=zH hV;have HP:=(show Hid (p.mode=m)from He);have Hf:=zH (And.intro hi hf);have hz:(ByteArray.mk p.run.toArray).size=p.run.length:=by simp[ByteArray.size]
 have Hl:(ByteArray.mk p.inside.toArray).size=p.inside.length:=by simp[ByteArray.size]
 have Hm:(ByteArray.mk p.tag.toArray).size=p.tag.length:=by simp[ByteArray.size]
 unfold qaz at Hb hS |-;unfold qan at H0 Hb hS |-;rw[He]at H0 Hb |-;simp only at hS;have Hg:=zH Hb;have HS:=zH hS;clear hV He Hb hS ha hl;go_enter func122,ntmps122
 go_upto_region 2 with(go_at_call 66;refine(Hg.out _).mono ?_;rintro e w1 ⟨rfl,Hi⟩;have H1:=zH (H0.out.kept Hi);clear Hi)
 clear H0 Hg;obtain⟨q0,q1,q2,q3,q4,q5⟩:=qbu H1.out.sp;have r0:=qbu H1.out.res;have f0:=qgx H1.out.res;rw[HP.out]at q0;have HT:=zH ht;go_cut [18] (fun s wx=>s=.bool (((p.read:Int)==(p.tag.length:Int)+2) && among b qdl)/\wx=w1)
 case first=>
  cases hr:((p.read:Int)==(p.tag.length:Int)+2)
  ·go_wp2
   go_meet
   exact⟨by rw[hr];rfl,rfl⟩
  ·go_wp2_with (go_at_call 80;refine(qed b _ qdl _ rfl (by decide)).mono ?_;rintro e w' ⟨rfl,rfl⟩)
   go_meet
   exact⟨by rw[hr];rfl,rfl⟩
 case rest=>
 obtain⟨rfl,rfl⟩:=hcut;generalize (((p.read:Int)==(p.tag.length:Int)+2) && among b qdl)=X at HV |-;cases X
 rotate_left
 ·have hv:=HV.out
  rw[if_pos rfl]at hv;by_cases hb:b=62
  ·subst hb
   have Ha:=zH hv;have H2:=zH (H1.out.kept (zB (.cells #[zI 1,zS,zS,zS,zS,zI 0] 94)));clear hv r0 f0;have r0:=qbu H2.out.res;have f0:=qgx H2.out.res;go_wp2_with (go_at_call 34;refine(qln _).mono ?_;rintro e w3 ⟨rfl,rfl⟩)
   exact HF.out _ ⟨1,[],[],[],[],0⟩ _ H2.out.res H2.out.low Ha.out rfl rfl
  ·rw[if_neg hb]at hv
   have Ha:=zH hv;have hn:((b.toNat:Int)==62)=false:=by have:=beq8 b 62;rw[show((62:UInt8).toNat:Int)=62 from rfl]at this;rw[this];exact yf.2 hb
   clear hv hb;go_wp2
   exact HF.out _ ⟨12,[],[],[],[],0⟩ _ H1.out.res H1.out.low Ha.out rfl rfl
 have Ha:=zH (HV.out.trans (if_neg (by decide)));clear HV r0 f0;have q3':=fun o=>(qaa (H1.out.kept ((xM wc.heap.size wc).alloc (yg _) o)).sp 3 _ rfl);have g3':=fun o=>(xI _ _ 3 _ _ (H1.out.kept ((xM wc.heap.size wc).alloc (yg _) o)).sp);have cv:=qi0 b wc _ rfl;go_upto_region 7 with(go_at_call 168;refine(zbi p.inside b _ (by have:=Hf.out.1;omega)).mono ?_;rintro e w' ⟨rfl,rfl⟩)
 have H2:Hid (Sp2 w ((wc.alloc (.cells #[zJ b.toNat] 5)).setCell (zO w.heap.size 3) (zV (qce (p.inside++[b])))) ⟨p.mode,p.tag,p.attr,qce (p.inside++[b]),p.run,p.far⟩):=(H1.out.kept (zB _)).put 3 _ (by rfl);rw[HP.out]at H2;clear q0 q1 q2 q3 q4 q5 q3' g3' cv H1;generalize World.setCell _ _ _=w2 at H2 |-;generalize qce (p.inside++[b])=IN at Ha H2 HS |-;obtain⟨q0,q1,q2,q3,q4,q5⟩:=qbu H2.out.sp;have g4':=fun o=>xI _ _ 4 _ _ (H2.out.kept ((xM w2.heap.size w2).alloc (yg _) o)).sp;have cv:=qi0 b w2 _ rfl;have hf:=Hf.out.2;have hE:=fun w=>qnx ⟨p.run.toArray⟩ (qbg m) w (by rw[hz];omega);generalize hc:qdz (qbg m) p.run=C at Ha;have hE:∀(w:World) (t:Bool),t=qbg m->zC 70 #[zV p.run,.bool t] w (zQ (zI C) w):=fun w t ht=>by rw[ht,<-hc];exact hE w
 have HE:=zH hE;have hj:(ByteArray.mk p.run.toArray++ByteArray.mk #[b])=⟨(p.run++[b]).toArray⟩:=by apply xj;simp
 have Hk:=zH hj;clear hE hc hj;have hi:=qhy m;generalize qca m=S at Ha hi;have HI:=zH hi;clear hi;go_upto_if 33 with(go_at_call 69;refine(HI.out _).mono ?_;rintro e w' ⟨rfl,rfl⟩)
 go_cut [6] (fun s6 wx=>wx=w2/\Hid ((S && (C==1))=false))
 case first=>
  have q0':=fun o=>qaa (H2.out.kept ((xM w2.heap.size w2).alloc (yg _) o)).sp 4 _ rfl;cases S
  ·go_wp2
   go_meet
   exact⟨rfl,by show _=_;rfl⟩
  have hx:((28:Int)<=(m:Int)/\Hid (true=qbg m))\/(¬(28:Int)<=(m:Int)/\Hid (false=qbg m)):=(Nat.lt_or_ge m 28).symm.imp (fun h=>⟨by omega,(yV (by omega)).symm⟩) fun h=>⟨by omega,(yx (by omega)).symm⟩;cases he:C==1
  ·rcases hx with ⟨hg,hx⟩ | ⟨hg,hx⟩
   all_goals
    go_upto_region 9 with(go_at_call 70;refine(HE.out _ _ hx.out).mono ?_;rintro e w' ⟨rfl,rfl⟩)
    go_wp2
    go_meet
    exact⟨rfl,by show _=_;rw[he];rfl⟩
  ·have Hc:Hid (V=⟨m,p.tag,p.attr,IN,p.run++[b],p.far⟩):=Ha.out.trans (if_pos (by rw[he];rfl))
   have H3:Hid (Sp2 w ((w2.alloc (.cells #[zJ b.toNat] 5)).setCell (zO w.heap.size 4) (.string (ByteArray.mk p.run.toArray++ByteArray.mk #[b]))) ⟨m,p.tag,p.attr,IN,p.run++[b],p.far⟩):=(H2.out.kept (zB _)).put 4 _ (by rw[Hk.out];rfl);rcases hx with⟨hg,hx⟩|⟨hg,hx⟩
   all_goals
    go_upto_region 11 with(go_at_call 70;refine(HE.out _ _ hx.out).mono ?_;rintro e w' ⟨rfl,rfl⟩)
    generalize World.setCell _ _ _=w3 at H3 |-;clear q0 q1 q2 q3 q4 q5 q0' g4';obtain⟨q0,q1,q2,q3,q4,q5⟩:=qbu H3.out.sp;have r0:=qbu H3.out.res;have f0:=qgx H3.out.res;go_wp2
    exact HF.out _ ⟨m,p.tag,p.attr,IN,p.run++[b],p.far⟩ _ H3.out.res H3.out.low Hc.out rfl rfl
 case rest=>
 obtain⟨rfl,HX⟩:=hcut;have hv:=Ha.out;rw[if_neg (by rw[HX.out];decide)]at hv;clear Ha;by_cases Hj:m=19
 ·subst Hj
  rw[if_pos rfl]at hv;have Hc:=zH hv;have H3:Hid (Sp2 w ((wc.alloc (.cells #[zJ b.toNat] 5)).setCell (zO w.heap.size 4) (zV (kept 19 (p.run++[b])))) ⟨((19:Nat):Int),p.tag,p.attr,IN,kept 19 (p.run++[b]),p.far⟩):=(H2.out.kept (zB _)).put 4 _ (by rfl);have q0':=fun o=>qaa (H2.out.kept ((xM wc.heap.size wc).alloc (yg _) o)).sp 4 _ rfl;clear hv;go_upto_region 14 with(go_at_call 169;refine(q26 19 p.run b _ Hf.out.2).mono ?_;rintro e w' ⟨rfl,rfl⟩)
  generalize World.setCell _ _ _=w3 at H3 |-;clear q0 q1 q2 q3 q4 q5 q0' g4';obtain⟨q0,q1,q2,q3,q4,q5⟩:=qbu H3.out.sp;have r0:=qbu H3.out.res;have f0:=qgx H3.out.res;go_wp2
  exact HF.out _ ⟨19,p.tag,p.attr,IN,kept 19 (p.run++[b]),p.far⟩ _ H3.out.res H3.out.low Hc.out rfl rfl
 ·rw[if_neg Hj]at hv
  have Hc:=zH hv;clear hv;go_wp2_with (go_at_call 123;refine(HS.out _).mono ?_;rintro e w3 ⟨rfl,hk⟩;have H3:=zH (H2.out.kept hk);clear hk;have r0:=qbu H3.out.res;have f0:=qgx H3.out.res)
  exact HF.out _ N _ H3.out.res H3.out.low Hc.out rfl rfl
theorem q4p(p:Sp)(m:Nat)(b:UInt8)(w:World)(Ha:p.mode=m)(hm:m<=33)(ht:p.tag.length<=1000)(ha:p.attr.length<=1000)(hi:p.inside.length<=1000)(Hb:p.run.length<=2000000000000000000) :
  zC 88 #[qaz p,zJ b.toNat] w (zR (qaz (p.next b)) w):=by
 have hE:=fun w=>qum p m b w Ha hm ht ha hi Hb;have hS:=fun w=>qsm p m b w Ha hm ht ha Hb;have hv:p.next b=if 19<=m then p.element m b else p.step m b:=by unfold Sp.next;rw[Ha,Int.toNat_natCast]
 have H0:=zH (Sp2.start w p);have hN:∃N:Sp,p.next b=N/\(19<=m->p.element m b=N)/\(¬ 19<=m->p.step m b=N):=⟨_,rfl,fun h=>by rw[hv,if_pos h],fun h=>by rw[hv,if_neg h]⟩;obtain⟨N,e,e1,e2⟩:=hN;rw[e];clear hv e;obtain⟨nm,nt,na,ni,nr,nf⟩:=N;unfold qaz at hE hS |-;unfold qan at H0 hE hS |-;rw[Ha]at H0 hE hS |-;clear Ha hm ht ha hi Hb;by_cases h:19<=m
 ·rw[e1 h]at hE
  have HC:=zH hE;have hc:(19:Int)<=(m:Int):=by omega
  clear hE hS e1 e2 h;go_enter func88,ntmps88
  go_wp2_with (go_at_call 122;refine(HC.out _).mono ?_;rintro e w1 ⟨rfl,hb⟩;have H1:=zH (H0.out.kept hb);clear hb;have r0:=qbu H1.out.res;have f0:=qgx H1.out.res)
  refine qfs results88 (w.heap.size+1) _ underlying94 rfl (by kernel_rfl) rfl ⟨_,_,H1.out.res,rfl⟩ rfl _ _ _ _ _ _ ?_;exact⟨rfl,qb9 H1.out.low (by simp) _ _ _ _ _ _⟩
 ·rw[e2 h]at hS
  have HC:=zH hS;have hc:¬(19:Int)<=(m:Int):=by omega
  clear hE hS e1 e2 h;go_enter func88,ntmps88
  go_wp2_with (go_at_call 123;refine(HC.out _).mono ?_;rintro e w1 ⟨rfl,hb⟩;have H1:=zH (H0.out.kept hb);clear hb;have r0:=qbu H1.out.res;have f0:=qgx H1.out.res)
  refine qfs results88 (w.heap.size+1) _ underlying94 rfl (by kernel_rfl) rfl ⟨_,_,H1.out.res,rfl⟩ rfl _ _ _ _ _ _ ?_;exact⟨rfl,qb9 H1.out.low (by simp) _ _ _ _ _ _⟩
end Go.Proofs.YtfkhljmiehdgmaaGreatDoor
