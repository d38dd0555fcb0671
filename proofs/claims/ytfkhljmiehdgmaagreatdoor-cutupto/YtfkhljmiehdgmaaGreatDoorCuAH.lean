/-
  Steps of the proof.
-/
import Derived.Test.YtfkhljmiehdgmaaGreatDoorCuAG
import Derived.Lib.SplitLaws
set_option maxRecDepth 100000
set_option maxHeartbeats 40000000
namespace Go.Proofs.YtfkhljmiehdgmaaGreatDoor
open Go.RowKit Go.Proofs.Tryz Pl
variable{w wr w':World}{B E R:Nat}{F:Fix}{S:List Src}{vv:Value}{s:Sr}{e:En}{y x:Sx}
theorem SeAt.drew(h:SeAt w B F S vv s):SeAt w.drew B F S vv s:=h.drewN 1
theorem qdx:qaf Sx.none=#[zJ 0,zS,zS,zI 0,zI 0,.bool false,.bool false,zI 0,zI 0,zI 0]:=rfl
theorem qb6:(180:TypeId)≠178:=by decide
theorem qh2:(180:TypeId)≠162:=by decide
structure Bhi(w wr:World)(B:Nat)(F:Fix)(S:List Src)(vv:Value)(s:Sr)(E R:Nat)(e:En)(y:Sx):Prop where
 se:SeAt wr B F S vv s
 ent:wr.heap[E]?=zK (qao e) 180
 res:StIn wr R y
 old:w.heap.size<=R/\B<=w.heap.size
 cue:Cue B F w wr
 tabs:TabB B wr
theorem Bhi.below(h:Bhi w wr B F S vv s E R e y)(z:zW wr w'):Bhi w w' B F S vv s E R e y:=
 have D:B<=wr.heap.size:=yh h.old.2 h.cue.below.size
 ⟨h.se.below z,(z.block _ (ya.1 h.ent).1).trans h.ent,h.res.below z,h.old,h.cue.trans (Cue.of_below z D),h.tabs.kept (z.mono D)⟩
theorem Bhi.alloc(h:Bhi w wr B F S vv s E R e y)(o:Obj):Bhi w (wr.alloc o) B F S vv s E R e y:=h.below (zB o)
theorem Bhi.drew(h:Bhi w wr B F S vv s E R e y):Bhi w wr.drew B F S vv s E R e y:=h.below (xL _ _).drew
theorem Bhi.turn{s':Sr}(h:Bhi w wr B F S vv s E R e y)(z:SeAt w' B F S vv s')(D:Cue B F wr w'):Bhi w w' B F S vv s' E R e y:=by
 have I:=D.keep E (ya.1 h.ent).1 (fun q=>qae h.se.blk h.ent qb6.symm q.symm) (qak h.ent h.se.ends);have J:=D.keep R h.res.lt (fun q=>qae h.se.blk h.res qb5.symm q.symm) (qak h.res h.se.ends);exact⟨z,I.trans h.ent,J.trans h.res,h.old,h.cue.trans D,h.tabs.kept D.below⟩
theorem Bhi.set(h:Bhi w wr B F S vv s E R e x)(y:Sx):Bhi w (qdf wr R (zJ (y.st.mode:Int)) (.string ⟨y.st.name.toArray⟩) (.string ⟨y.st.elem.toArray⟩) (zI y.st.kind) (zI (y.st.read:Int)) (.bool y.ma.ref) (.bool y.st.esc) (zI y.ma.hex) (zI y.ma.pct) (zI y.ma.far)) B F S vv s E R e y:=by
 have z:=fun k (I:k≠R)=>qha (w:=wr) I (zJ (y.st.mode:Int)) (.string ⟨y.st.name.toArray⟩) (.string ⟨y.st.elem.toArray⟩) (zI y.st.kind) (zI (y.st.read:Int)) (.bool y.ma.ref) (.bool y.st.esc) (zI y.ma.hex) (zI y.ma.pct) (zI y.ma.far);have D:Below R wr (qdf wr R (zJ (y.st.mode:Int)) (.string ⟨y.st.name.toArray⟩) (.string ⟨y.st.elem.toArray⟩) (zI y.st.kind) (zI (y.st.read:Int)) (.bool y.ma.ref) (.bool y.st.esc) (zI y.ma.hex) (zI y.ma.pct) (zI y.ma.far)):=qfe (xL _ _) (yg _) _ _ _ _ _ _ _ _ _ _;have J:=h.res.set y;generalize qdf wr R _ _ _ _ _ _ _ _ _ _=w' at z D J |-;exact⟨h.se.far h.res z,(z _ (qae h.ent h.res qh2)).trans h.ent,J,h.old,⟨h.cue.below.trans (D.mono (yh h.old.2 h.old.1)),fun k I O T=>(z k (by have:=h.old.1;omega)).trans (h.cue.keep k I O T)⟩,h.tabs.kept (D.mono (yh h.old.2 h.old.1))⟩
theorem Bhi.post(h:Bhi w wr B F S vv s E R e y){a:Act}(z:a.tmps.getD 6 undef=zP R)(hd:a.defers=[]) :
  bodyPost prog f156 (fun ed w'=>ed=.returned (qar y)/\SeAt w' B F S vv s/\Cue B F w w') .ret a wr:=
 bodyPost_ret (qbn results156 _ _ R _ _ z (qaa h.res) underlying162 rfl (by kernel_rfl)) hd ⟨rfl,h.se,h.cue⟩
theorem qct(h:w.heap[E]?=zK (qao e) 180):∀(j:Nat) (v:Value),(qao e).toList[j]?=some v->w.cell? (zO E j)=some v:=fun j v y=>qaa h j v y
theorem qv4(S:List Src)(y:SrcsOk S)(w:World)(B:Nat)(F:Fix)(vv:Value)(s:Sr)(n:zU)(x:Sx)(h:SeAt w B F S vv s)(z:n.length<=2000)(D:B<=w.heap.size)(I:qaj S n=0) :
  zC 156 #[zP F.g,.string ⟨n.toArray⟩,qar x] w fun ed w'=>ed=.returned (qar x)/\SeAt w' B F S vv s/\Cue B F w w':=by
 have b1:∀o o',((w.alloc o).alloc o').cell? (zO F.g 1)=some (.map (some F.bp)):=fun o o'=>((h.alloc o).alloc o').cell 1 _ rfl;have b2:∀o o' o'',(((w.alloc o).alloc o').alloc o'').cell? (zO F.g 1)=some (.map (some F.bp)):=fun o o' o''=>(((h.alloc o).alloc o').alloc o'').cell 1 _ rfl;have l1:=fun o o'=>((h.alloc o).alloc o').drew.place y n (by omega);have l2:=fun o o' o''=>(((h.alloc o).alloc o').alloc o'').drew.place y n (by omega);rw[I]at l1 l2;generalize (⟨n.toArray⟩:zT)=N at l1 l2 |-;unfold qar qaf bs;have J:=zH h;clear h;go_enter func156,ntmps156
 go_wp2
 go_region
 go_wp2
 refine bodyPost_ret (qbn results156 _ _ (w.heap.size+1) _ _ rfl (qaa ((xI _ _ (by simp)).trans (qap (w.alloc _) _ _ (by simp)))) underlying162 rfl (by kernel_rfl)) rfl ⟨rfl,(((J.out.alloc _).alloc _).alloc _).drew,Cue.of_below (((zB _).alloc (by simp) _).alloc (by simp;omega) _).drew D⟩
theorem qkc(h:SeAt w B F S vv s)(y:B<=w.heap.size)(z:TabB B w)(i:Nat) :
  Bhi w (((w.alloc (.cells (qaf x) 162)).alloc (.cells (qaf Sx.none) 162)).alloc (.cells (qao (i,x)) 180)).drew B F S vv s (w.heap.size+1+1) (w.heap.size+1) (i,x) Sx.none:=by
 have D:=((((xL w.heap.size w).alloc (yg _) (.cells (qaf x) 162)).alloc (by simp) (.cells (qaf Sx.none) 162)).alloc (by simp;omega) (.cells (qao (i,x)) 180)).drew;exact⟨(((h.alloc _).alloc _).alloc _).drew,qap (World.alloc (w.alloc _) _) _ _ (by simp),(xI _ _ (by simp)).trans (qap (w.alloc _) _ _ (by simp)),⟨by omega,y⟩,Cue.of_below D y,z.kept (D.mono y)⟩
theorem qza(S:List Src)(D:SrcsOk S)(w:World)(B:Nat)(F:Fix)(vv:Value)(s:Sr)(n:zU)(x:Sx)(h:SeAt w B F S vv s)(I:EndsOk S.length s.ends)(J:SxFit x)(O:n.length<=2000)(T:B<=w.heap.size)(U:TabB B w)(V:qaj S n≠0)(y:Sx)(X:qa9 s.ends (qaj S n,x)=some y) :
  zC 156 #[zP F.g,.string ⟨n.toArray⟩,qar x] w fun ed w'=>ed=.returned (qar y)/\SeAt w' B F S vv s/\Cue B F w w':=by
 have b1:∀o o',((w.alloc o).alloc o').cell? (zO F.g 1)=some (.map (some F.bp)):=fun o o'=>((h.alloc o).alloc o').cell 1 _ rfl;have b2:∀o o' o'',(((w.alloc o).alloc o').alloc o'').cell? (zO F.g 1)=some (.map (some F.bp)):=fun o o' o''=>(((h.alloc o).alloc o').alloc o'').cell 1 _ rfl;have l1:=fun o o'=>((h.alloc o).alloc o').drew.place D n (by omega);have l2:=fun o o' o''=>(((h.alloc o).alloc o').alloc o'').drew.place D n (by omega);have z:qaj S n<=6:=by have:=qfh S n V;have:=D.few;omega
 have Y:=zH (qkc (x:=x) h T U (qaj S n));generalize Z:qaj S n=i at *;have i0:((i:Int)==0)=false:=by rw[yf];omega
 generalize (⟨n.toArray⟩:zT)=N at l1 l2 |-;rw[qdx]at Y;unfold qao qaf bs at Y;unfold qar qaf bs;clear h;have HY:=zH X;clear X;go_enter func156,ntmps156
 go_wp2
 go_region
 go_wp2
 clear b1 b2 l1 l2;generalize World.drew _=w3 at Y |-;have l3:=Y.out.se.drew.look D I (i,x) J z true;have l4:=fun o=>(Y.out.se.alloc o).drew.look D I (i,x) J z true;rw[HY.out]at l3 l4;have b1:w3.cell? (zO F.g 2)=some (.map (some F.be)):=Y.out.se.cell 2 _ rfl;have b2:∀o,(w3.alloc o).cell? (zO F.g 2)=some (.map (some F.be)):=fun o=>(Y.out.se.alloc o).cell 2 _ rfl;have he:=qct Y.out.ent;have hf:=fun o=>qct (Y.out.alloc o).ent;unfold qao bs at he hf;have hr:=fun o=>(Y.out.alloc o).res;have r0:=fun o=>(hr o).at'.all;have f0:=fun o=>(hr o).slot.thaw;have m0:=al he;have n0:=fun o=>al (hf o);clear he hf hr;have HT:=(show Hid _ from((Y.out.alloc (.cells (qaf y) 162)).set y).drew);unfold qaf bs at HT;simp only[qbj]at l3 l4;unfold qar qaf qao bs at l3 l4;simp only[Option.getD_some,Option.isSome_some,if_true]at l3 l4;go_region
 go_wp2
 unfold qdf at HT;refine(HT.out).post ?_ ?_
 ·rfl
 ·rfl
namespace Pl
variable{o:Nat}{l:List Pt}
def stk:List Pt->List Nat->List Nat
 |[],st=>st
 |p::l,st=>if p.kind=3\/p.kind=4 then stk l (p.mate::st)else if p.kind=5 then stk l st.tail else stk l st
theorem qf6(p:Pt)(l:List Pt)(st:List Nat):stk (p::l) st=if p.kind=3\/p.kind=4 then stk l (p.mate::st)else if p.kind=5 then stk l st.tail else stk l st:=rfl
theorem qg1(l m:List Pt):∀st,stk (l++m) st=stk m (stk l st):=by
 induction l with
 |nil=>intro st;rfl
 |cons p l ih=>
   intro st;rw[xB,qf6,qf6];split
   ·exact ih _
   ·split
    ·exact ih _
    ·exact ih _
theorem zgp(h:Wf o l):(∀st,stk l st=st)/\∀i,i<=l.length->∀st,∃ex,stk (l.take i) st=ex++st/\(∀m∈ex,o+i<=m/\m<o+l.length)/\∀m tl,ex=m::tl->stk (l.take (m - o)) st=ex++st:=by
 induction h with
 |nil o=>exact⟨fun st=>rfl,fun i D st=>⟨[],by simp[stk],fun m I=>(by cases I),fun m tl e=>(by cases e)⟩⟩
 |leaf o p l hk _ ih=>
   have J:∀l st,stk (p::l) st=stk l st:=fun l st=>by
    rw[qf6,if_neg (by omega),if_neg (by omega)]
   refine⟨fun st=>by rw[J];exact ih.1 st,fun i D st=>?_⟩;cases i with
   |zero=>exact⟨[],rfl,fun m I=>(by cases I),fun m tl e=>(by cases e)⟩
   |succ i=>
     obtain⟨ex,O,T,U⟩:=ih.2 i (by simpa using D) st;refine⟨ex,by rw[xb,J];exact O,fun m I=>?_,fun m tl e=>?_⟩
     ·have:=T m I
      simp only[yK];omega
     ·have I:=T m (by rw[e];simp)
      rw[show m - o=(m - (o+1))+1 by omega,xb,J];exact U m tl e
 |sec o p q b l hp hq hm1 hm2 hb _ ihb ihl=>
   have e:p::b++q::l=p::(b++q::l):=by simp
   have J:∀l st,stk (p::l) st=stk l (p.mate::st):=fun l st=>by
    rw[qf6,if_pos hp]
   have y:∀l st,stk (q::l) st=stk l st.tail:=fun l st=>by
    rw[qf6,if_neg (by omega),if_pos hq]
   rw[e];refine⟨fun st=>?_,fun i D st=>?_⟩
   ·rw[J,qg1,ihb.1,y]
    exact ihl.1 st
   ·cases i with
    |zero=>exact⟨[],rfl,fun m I=>(by cases I),fun m tl e=>(by cases e)⟩
    |succ j=>
      simp only[yK,yJ]at D |-;rw[xb,J];by_cases V:j<=b.length
      ·rw[xD V]
       obtain⟨ex,O,T,U⟩:=ihb.2 j V (p.mate::st);refine⟨ex++[p.mate],by rw[O];simp,fun m I=>?_,fun m tl e2=>?_⟩
       ·simp only[yn,yv]at I
        rcases I with I|rfl
        ·have:=T m I;omega
        ·omega
       ·cases ex with
        |nil=>
          simp only[xC,List.cons.injEq]at e2;obtain⟨rfl,_⟩:=e2;rw[show p.mate - o=b.length+1 by omega,xb,J,List.take_left,ihb.1];simp
        |cons m' tl'=>
          simp only[xB,List.cons.injEq]at e2;obtain⟨rfl,_⟩:=e2;have I:=T m' (by simp);rw[show m' - o=(m' - (o+1))+1 by omega,xb,J,xD (by omega),U m' tl' rfl];simp
      ·obtain⟨t,rfl⟩:∃t,j=b.length+1+t:=⟨j - (b.length+1),by omega⟩
       have X:(b++q::l).take (b.length+1+t)=b++q::l.take t:=by
        rw[List.take_append];rw[yp (by omega),show b.length+1+t - b.length=t+1 by omega,xb]
       rw[X,qg1,ihb.1,y];simp only[List.tail_cons];obtain⟨ex,O,T,U⟩:=ihl.2 t (by omega) st;refine⟨ex,O,fun m I=>?_,fun m tl e2=>?_⟩
       ·have:=T m I;omega
       ·have I:=T m (by rw[e2];simp)
        obtain⟨u,Y⟩:∃u,m - o=(b.length+1+u)+1:=⟨m - o - (b.length+2),by omega⟩;have z:(b++q::l).take (b.length+1+u)=b++q::l.take u:=by
         rw[List.take_append];rw[yp (by omega),show b.length+1+u - b.length=u+1 by omega,xb]
        rw[Y,xb,J,z,qg1,ihb.1,y];simp only[List.tail_cons];have:=U m tl e2;rw[show m - (o+b.length+2)=u by omega]at this;exact this
theorem ze1(l:List Pt):∀st,(stk l st).length<=l.length+st.length:=by
 induction l with
 |nil=>intro st;simp[stk]
 |cons p l ih=>
   intro st;rw[qf6];split
   ·have:=ih (p.mate::st);simp only[yK]at this |-;omega
   ·split
    ·have:=ih st.tail;rw[List.length_tail]at this;simp only[yK];omega
    ·have:=ih st;simp only[yK];omega
theorem zde(l m:List Pt):∀st,deep (l++m) st.length=true->deep m (stk l st).length=true:=by
 induction l with
 |nil=>intro st h;exact h
 |cons p l ih=>
   intro st h;have h:deep (p::(l++m)) st.length=true:=h;unfold deep at h;rw[qf6];by_cases y:p.kind=3\/p.kind=4
   ·rw[if_pos y]at h |-
    exact ih (p.mate::st) (by simpa using h)
   rw[if_neg y]at h |-;by_cases z:p.kind=5
   ·rw[if_pos z]at h |-
    simp only[ne_eq,yL,yN]at h;exact ih st.tail (by simpa using h.2)
   ·rw[if_neg z]at h |-
    exact ih st h
theorem za0(h:Wf o l):∀(i:Nat) (p:Pt),l[i]?=some p->p.kind=5->p.mate<o+l.length/\o<=p.mate:=by
 induction h with
 |nil o=>intro i p y;simp at y
 |leaf o q l hk _ ih=>
   intro i p y D;cases i with
   |zero=>simp at y;subst y;omega
   |succ i=>
     have:=ih i p (by simpa using y) D;simp only[yK];omega
 |sec o q z b l hq hz h1 h2 hb _ ihb ihl=>
   intro i p y D;have e:q::b++z::l=q::(b++z::l):=by simp
   rw[e]at y |-;simp only[yK,yJ];cases i with
   |zero=>simp at y;subst y;omega
   |succ i=>
     simp only[yT]at y;rw[yI]at y;split at y
     ·have:=ihb i p y D;omega
     ·rename_i I
      cases J:i - b.length with
      |zero=>rw[J]at y;simp at y;subst y;omega
      |succ j=>
        rw[J]at y;have:=ihl j p (by simpa using y) D;omega
end Pl
namespace Pl
theorem qxz(b:UInt8):qc2 b=(b==95 || (qea b || (decide (97<=b.toNat) && decide (b.toNat<=122)))):=rfl
theorem zdq(f:UInt8->Bool)(s:zT)(k:Nat)(h:k<s.size)(y:(s.data.toList.take k).all f=true)(z:f s[k]=true):(s.data.toList.take (k+1)).all f=true:=by
 rw[qdn s k h,List.all_append,y];simp[z]
theorem zhs(f:UInt8->Bool)(s:zT)(k:Nat)(h:k<s.size)(y:f s[k]=false):s.data.toList.all f=false:=by
 rw[quk s k h,List.all_append];simp[y]
theorem zgl(f:UInt8->Bool)(s:zT)(k:Nat)(h:¬k<s.size)(y:(s.data.toList.take k).all f=true):s.data.toList.all f=true:=by
 rw[<-qeo s k (by omega)];exact y
theorem q5x(s:zT)(y:s.size≠0)(z:s.size<=8):qa4 s.data.toList=s.data.toList.all qc2:=by
 unfold qa4;have e1:s.data.toList.isEmpty=false:=by
  rw[List.isEmpty_eq_false_iff];intro q;apply y;have:=yE List.length q;simpa using this
 have e2:decide (s.data.toList.length<=8)=true:=yV (by simpa using z);rw[e1,e2];rfl
theorem qxt(s:zT)(y:¬s.size<=8):qa4 s.data.toList=false:=by
 unfold qa4;have e2:decide (s.data.toList.length<=8)=false:=yx (by simpa using y);rw[e2];simp
end Pl
theorem qda(s:zT)(w:World) :
  zC 72 #[.string s] w (zQ (.bool (Pl.qa4 s.data.toList)) w):=by
 by_cases z:s.size=0
 ·obtain rfl:s=⟨#[]⟩:=xi (Array.eq_empty_of_size_eq_zero z)
  go_enter func72,ntmps72
  go_wp2
  go_ret
  exact⟨rfl,rfl⟩
 have D:Hid ((s.toList.isEmpty)=false):=by
  show _=_;rw[Lib.toList_data,List.isEmpty_eq_false_iff];intro q;apply z;have:=yE List.length q;simpa using this
 have c0:=D.out;by_cases I:s.size<=8
 rotate_left
 ·have J:=zH (Pl.qxt s I)
  have c8:(8:Int)<(s.size:Int):=by omega
  clear I;go_enter func72,ntmps72
  go_wp2
  go_ret
  exact⟨qas J.out.symm,rfl⟩
 have J:=zH (Pl.q5x s z I);have c8:¬(8:Int)<(s.size:Int):=by omega
 go_enter func72,ntmps72
 go_wp2
 clear c0 c8;go_loop [14] (fun i=>∃k:Nat,k<=s.size/\i=zI k/\Hid ((s.data.toList.take k).all Pl.qc2=true)) (fun i=>s.size - (intOf i).toNat)
 case atStart=>exact⟨0,yH _,rfl,rfl⟩
 case round=>
  obtain⟨k,O,rfl,T⟩:=hrel;by_cases y:k<s.size
  ·have U:Hid (∀x,Pl.qc2 s[k]=x->(x=true->(s.data.toList.take (k+1)).all Pl.qc2=true)/\(x=false->s.data.toList.all Pl.qc2=false)):=by
    rintro x rfl;exact⟨fun q=>Pl.zdq _ s k y T.out q,fun q=>Pl.zhs _ s k y q⟩
   have V:=zH (Pl.qxz s[k]);by_cases d1:s[k]=95
   ·have X:=(show Hid _ from(U.out true (by rw[V.out,d1];rfl)).1 rfl)
    have e1:(s[k].toNat:Int)=95:=by rw[d1];rfl
    clear U V T d1;go_wp2_with (go_at_call 102;refine cm (qde s[k] _) ?_)
    go_round
    case rel=>exact⟨k+1,by omega,by go_num,X⟩
    case measure=>simp[intOf];omega
   ·have e1:¬(s[k].toNat:Int)=95:=fun q=>d1 (UInt8.toNat_inj.1 (show s[k].toNat=95 by omega))
    by_cases d2:Pl.qea s[k]=true
    ·have X:=(show Hid _ from(U.out true (by rw[V.out,d2];simp)).1 rfl)
     clear U V T d1;go_wp2_with (go_at_call 102;refine cm (qde s[k] _) ?_;rw[d2])
     go_round
     case rel=>exact⟨k+1,by omega,by go_num,X⟩
     case measure=>simp[intOf];omega
    ·have d2:=ye.2 d2
     by_cases d3:97<=s[k].toNat
     ·by_cases d4:s[k].toNat<=122
      ·have X:=(show Hid _ from(U.out true (by rw[V.out,d2];simp[d3,d4])).1 rfl)
       have e3:¬(s[k].toNat:Int)<97:=by omega
       have e4:¬(122:Int)<(s[k].toNat:Int):=by omega
       clear U V T d1 d3 d4;go_wp2_with (go_at_call 102;refine cm (qde s[k] _) ?_;rw[d2])
       go_round
       case rel=>exact⟨k+1,by omega,by go_num,X⟩
       case measure=>simp[intOf];omega
      ·have X:=(show Hid _ from(U.out false (by rw[V.out,d2];have:decide (s[k].toNat<=122)=false:=yx d4;rw[this];simp[d1])).2 rfl)
       have e3:¬(s[k].toNat:Int)<97:=by omega
       have e4:(122:Int)<(s[k].toNat:Int):=by omega
       clear U V T d1 d3 d4;go_wp2_with (go_at_call 102;refine cm (qde s[k] _) ?_;rw[d2])
       go_ret
       exact⟨qas (by rw[J.out,X.out]),rfl⟩
     ·have X:=(show Hid _ from(U.out false (by rw[V.out,d2];have:decide (97<=s[k].toNat)=false:=yx d3;rw[this];simp[d1])).2 rfl)
      have e3:(s[k].toNat:Int)<97:=by omega
      clear U V T d1 d3;go_wp2_with (go_at_call 102;refine cm (qde s[k] _) ?_;rw[d2])
      go_ret
      exact⟨qas (by rw[J.out,X.out]),rfl⟩
  ·have X:=zH (Pl.zgl Pl.qc2 s k y T.out)
   clear T;go_wp2
   go_ret
   exact⟨qas (by rw[J.out,X.out]),rfl⟩
theorem q1f(s:zT)(w:World) :
  zC 229 #[.string s] w (zQ (.bool (qeb s.data.toList)) w):=by
 have y:Hid (qeb s.data.toList=(decide (s.size<=3) && !(among 61 s.data.toList))):=by
  show _=_;unfold qeb
  congr 2
 by_cases z:s.size<=3
 ·have c3:(s.size:Int)<=3:=by omega
  by_cases D:among 61 s.data.toList=true
  ·have y:Hid (qeb s.data.toList=false):=by show _=_;rw[y.out,D];simp
   have I:=zH (fun w=>qb7 61 s _ w rfl D);clear D;go_enter func229,ntmps229
   go_wp2_with (go_at_call 130;refine(I.out _).mono ?_;rintro e w' ⟨x,J,rfl,rfl⟩)
   go_ret
   refine⟨qas ?_,rfl⟩;rw[y.out];simp;omega
  ·have D:=ye.2 D
   have y:Hid (qeb s.data.toList=true):=by show _=_;rw[y.out,D];simp[z]
   have I:=zH (fun w=>qci 61 s _ w rfl D);clear D;go_enter func229,ntmps229
   go_wp2_with (go_at_call 130;refine cm (I.out _) ?_)
   go_ret
   exact⟨qas y.out.symm,rfl⟩
 ·have c3:¬(s.size:Int)<=3:=by omega
  have y:Hid (qeb s.data.toList=false):=by show _=_;rw[y.out];simp[z]
  clear z;go_enter func229,ntmps229
  go_wp2
  go_ret
  exact⟨qas y.out.symm,rfl⟩
namespace Pl
theorem qfi:∀N:List zU,qhn N=true↔∀(i:Nat) (x:zU),N[i]?=some x->qa4 x=true/\∀j:Nat,j<i->N[j]?≠some x
 |[]=>by simp[qhn]
 |n::l=>by
   unfold qhn;simp only[yL,Bool.not_eq_true',qfi l];constructor
   ·rintro⟨y,z,D⟩ i x I
    cases i with
    |zero=>
      simp only[yS,Option.some.injEq]at I;subst I;exact⟨y,fun j J=>absurd J (yZ _)⟩
    |succ i=>
      simp only[yT]at I;refine⟨(D i x I).1,fun j J=>?_⟩;cases j with
      |zero=>
        simp only[yS,ne_eq,Option.some.injEq];rintro rfl;have:l.contains n=true:=List.contains_iff_mem.2 (yl I);rw[this]at z;cases z
      |succ j=>
        simp only[yT];exact(D i x I).2 j (by omega)
   ·intro h
    refine⟨(h 0 n rfl).1,?_,fun i x I=>⟨(h (i+1) x (by simpa using I)).1,fun j J=>?_⟩⟩
    ·rw[ye]
     intro q;obtain⟨i,O⟩:=xj (List.contains_iff_mem.1 q);exact(h (i+1) n (by simpa using O)).2 0 (by omega) rfl
    ·have:=(h (i+1) x (by simpa using I)).2 (j+1) (by omega)
     simpa using this
end Pl
structure PsAt(w:World)(b:Nat)(L:List (zT×zT)):Prop where
 name:∀k x,L[k]?=some x->w.cell? (zO b (k*2))=some (.string x.1)
 text:∀k x,L[k]?=some x->w.cell? (zO b (k*2+1))=some (.string x.2)
structure PoAt(w:World)(b o:Nat)(L:List (zT×zT)):Prop where
 name:∀(k:Nat) (x:zT×zT),L[k]?=some x->w.cell? (zO b (o+k*2))=some (.string x.1)
 text:∀(k:Nat) (x:zT×zT),L[k]?=some x->w.cell? (zO b (o+k*2+1))=some (.string x.2)
def qbq(L:List (zT×zT)):List zU:=L.map fun x=>x.1.data.toList
theorem zdl{a b:zT}(h:a≠b):(a.toList==b.toList)=false:=by
 rw[yf,ByteArray.toList_eq,ByteArray.toList_eq];exact fun q=>h (xi (Array.toList_inj.1 q))
theorem q5k{L:List (zT×zT)}{k:Nat}{x:zU}(h:(qbq L)[k]?=some x):∃y,L[k]?=some y/\y.1.data.toList=x:=by
 unfold qbq at h;rw[yz]at h;obtain⟨y,z,D⟩:=yy.1 h;exact⟨y,z,D⟩
theorem qzh(ao:Option Addr)(cap:Nat)(w:World) :
  zC 43 #[.slice ao 0 cap] w (zQ (.bool true) w):=by
 go_enter func43,ntmps43
 go_wp2
 go_loop [10] (fun i=>i=zI 0) (fun _=>0)
 case atStart=>rfl
 case round=>
  obtain rfl:=hrel;go_wp2
  go_ret
  exact⟨rfl,rfl⟩
theorem qzi(ao:Option Addr)(n cap:Nat)(w:World)(y:6<n) :
  zC 43 #[.slice ao n cap] w (zQ (.bool false) w):=by
 have c1:(6:Int)<(n:Int):=by omega
 clear y;go_enter func43,ntmps43
 go_wp2
 go_ret
 exact⟨rfl,rfl⟩
theorem qzg(b o cap:Nat)(L:List (zT×zT))(w:World)(h:PoAt w b o L)(hn:L.length<=6) :
  zC 43 #[.slice (some (zO b o)) L.length cap] w fun e w'=>e=.returned (.bool (Pl.qhn (qbq L)))/\∃m,w'=w.drewN m:=by
 have HA:=(show Hid (PoAt w b o L)from h);have c1:¬(6:Int)<(L.length:Int):=by omega
 clear h;go_enter func43,ntmps43
 go_wp2
 clear c1;go_loopw [10] (fun i wr=>∃k:Nat,k<=L.length/\i=zI k/\Hid (∀i x,i<k->(qbq L)[i]?=some x->Pl.qa4 x=true/\∀j,j<i->(qbq L)[j]?≠some x)/\∃m,wr=w.drewN m) (fun i _=>L.length - (intOf i).toNat)
 case atStart=>exact⟨0,yH _,rfl,fun i x hi=>absurd hi (yZ _),0,rfl⟩
 case round=>
  obtain⟨k,hk,rfl,HN,m,rfl⟩:=hrel;by_cases I:k<L.length
  rotate_left
  ·have HT:Hid (Pl.qhn (qbq L)=true):=(Pl.qfi _).2 fun i x hx=>HN.out i x (by
    have:=(yb.1 hx).1;unfold qbq at this;simp at this;omega) hx
   clear HN HA;go_wp2
   go_ret
   exact⟨qas HT.out.symm,m,rfl⟩
  have hx:L[k]?=some L[k]:=yc I;have HX:=(show Hid (L[k]?=some L[k])from hx);have q0:w.cell? (zO b (o+k*2))=some (.string L[k].1):=HA.out.name k _ hx;have D:(qbq L)[k]?=some L[k].1.data.toList:=by unfold qbq;simp[hx]
  have z:=zH D;clear hx D;generalize L[k]=X at q0 HX z;by_cases hi:Pl.qa4 X.1.data.toList=true
  rotate_left
  ·have hi:=ye.2 hi
   have HT:Hid (Pl.qhn (qbq L)=false):=by
    show _=_;rw[ye];intro q;have:=((Pl.qfi _).1 q k _ z.out).1;rw[hi]at this;cases this
   clear HN HA HX z;go_wp2_with (go_at_call 72;refine cm (qda X.1 _) ?_;rw[hi])
   go_ret
   exact⟨qas HT.out.symm,m,rfl⟩
  have HI:=zH hi;go_wp2_with (go_at_call 72;refine cm (qda X.1 _) ?_;rw[hi])
  clear hi q0;go_hide hQ
  have HQ:=zH hQ;clear hQ;go_loopw [21] (fun i wr=>∃j:Nat,j<=k/\i=zI j/\Hid (∀j',j'<j->(qbq L)[j']?≠some X.1.data.toList)/\Hid (∃m',wr=w.drewN m')) (fun i _=>k - (intOf i).toNat)
  case atStart=>exact⟨0,yH _,rfl,fun j' hj=>absurd hj (yZ _),m,rfl⟩
  case round=>
   obtain⟨j,hj,rfl,HJ,HW⟩:=hrel;obtain⟨m',rfl⟩:=HW.out;clear HW;by_cases J:j<k
   ·have O:j<L.length:=by omega
    have hy:L[j]?=some L[j]:=yc O;have HY:=(show Hid (L[j]?=some L[j])from hy);have p0:w.cell? (zO b (o+j*2))=some (.string L[j].1):=HA.out.name j _ hy;have p1:w.cell? (zO b (o+k*2))=some (.string X.1):=HA.out.name k _ HX.out;clear hy;generalize L[j]=Y at p0 HY;have d1:(j:Int)<(L.length:Int):=by omega
    have d2:(k:Int)<(L.length:Int):=by omega
    by_cases e0:Y.1=X.1
    ·have HT:Hid (Pl.qhn (qbq L)=false):=by
      show _=_;rw[ye];intro q;refine((Pl.qfi _).1 q k _ z.out).2 j J ?_;show(qbq L)[j]?=some X.1.data.toList;unfold qbq;rw[yz,HY.out,<-e0];rfl
     rw[e0]at p0;clear HN HA HX z HJ HY e0;go_wp2
     go_quiet (fail)
     go_wp2
     rw[<-HQ.out];go_wp2
     go_ret
     exact⟨qas HT.out.symm,m'+nq,by rw[World.drewN_drewN]⟩
    ·have t0:=zdl e0
     have T:Hid (∀j',j'<j+1->(qbq L)[j']?≠some X.1.data.toList):=by
      intro j' Ha;by_cases U:j'=j
      ·subst U
       intro q;obtain⟨y,h1,h2⟩:=q5k q;rw[HY.out]at h1;obtain rfl:=yk h1;exact e0 (xi (Array.toList_inj.1 h2))
      ·exact HJ.out j' (by omega)
     clear HN HX z HJ HY e0;go_wp2
     go_quiet (fail)
     go_wp2
     go_roundw
     case rel=>exact⟨j+1,by omega,by go_num,T,⟨m'+nq,by simp[World.drewN]⟩⟩
     case measure=>simp[intOf];omega
   ·have V:j=k:=by omega
    subst V;have Z:Hid (∀i x,i<j+1->(qbq L)[i]?=some x->Pl.qa4 x=true/\∀j',j'<i->(qbq L)[j']?≠some x):=by
     intro i x hb hx;by_cases ha:i=j
     ·subst ha
      rw[z.out]at hx;obtain rfl:=yk hx;exact⟨HI.out,HJ.out⟩
     ·exact HN.out i x (by omega) hx
    clear HN HX z HJ HA;go_wp2
    rw[<-HQ.out];go_wp2
    go_roundw
    case rel=>exact⟨j+1,by omega,by go_num,Z,m',rfl⟩
    case measure=>simp[intOf];omega
def qeh(o:Tg):Value:=.agg #[zI o.kind,zI o.slip,bs o.name,bs o.op,bs o.cl]
def qnd(o:Tg):Array Value:=#[zI o.kind,zI o.slip,bs o.name,bs o.op,bs o.cl]
theorem q6o(s:zT)(h:0<s.size):∃b l,s.data.toList=b::l/\b=s[0]:=by
 have:=quk s 0 h;exact⟨s[0],s.data.toList.drop 1,by simpa using this,rfl⟩
theorem qgs(s:zT)(w:World) :
  zC 193 #[.string s] w (zQ (zI (qay s.data.toList)) w):=by
 by_cases D:s.size=0
 ·obtain rfl:s=⟨#[]⟩:=xi (Array.eq_empty_of_size_eq_zero D)
  go_enter func193,ntmps193
  go_wp2
  go_ret
  exact⟨rfl,rfl⟩
 have c0:(s.toList.isEmpty)=false:=by
  rw[Lib.toList_data,List.isEmpty_eq_false_iff];intro q;apply D;have:=yE List.length q;simpa using this
 obtain⟨b,l,I,J⟩:=q6o s (by omega);have c1:(0:Int)<(s.size:Int):=by omega
 have O:Hid (qay s.data.toList=if s[0]=33 then 7 else if s[0]=61 then 8 else if s[0]=35 then 3 else if s[0]=94 then 4 else if s[0]=47 then 5 else if s[0]=62 then 6 else 2):=by
  show _=_;rw[I];unfold qay;rw[J]
 have ne:∀n:UInt8,s[0]≠n->∀z:Int,z=n.toNat->¬(s[0].toNat:Int)=z:=fun n y z T q=>y (UInt8.toNat_inj.1 (by omega));clear I J D;by_cases d1:s[0]=33
 ·have e1:(s[0].toNat:Int)=33:=by rw[d1];rfl
  have U:Hid (qay s.data.toList=7):=by show _=_;rw[O.out,d1];rfl
  clear O d1 ne;go_enter func193,ntmps193
  go_wp2
  go_ret
  exact⟨qal (by rw[U.out];rfl),rfl⟩
 have e1:=ne 33 d1 33 rfl;by_cases d2:s[0]=61
 ·have e2:(s[0].toNat:Int)=61:=by rw[d2];rfl
  have U:Hid (qay s.data.toList=8):=by show _=_;rw[O.out,d2];rfl
  clear O d1 d2 ne;go_enter func193,ntmps193
  go_wp2
  go_ret
  exact⟨qal (by rw[U.out];rfl),rfl⟩
 have e2:=ne 61 d2 61 rfl;by_cases d3:s[0]=35
 ·have e3:(s[0].toNat:Int)=35:=by rw[d3];rfl
  have U:Hid (qay s.data.toList=3):=by show _=_;rw[O.out,d3];rfl
  clear O d1 d2 d3 ne;go_enter func193,ntmps193
  go_wp2
  go_ret
  exact⟨qal (by rw[U.out];rfl),rfl⟩
 have e3:=ne 35 d3 35 rfl;by_cases d4:s[0]=94
 ·have e4:(s[0].toNat:Int)=94:=by rw[d4];rfl
  have U:Hid (qay s.data.toList=4):=by show _=_;rw[O.out,d4];rfl
  clear O d1 d2 d3 d4 ne;go_enter func193,ntmps193
  go_wp2
  go_ret
  exact⟨qal (by rw[U.out];rfl),rfl⟩
 have e4:=ne 94 d4 94 rfl;by_cases d5:s[0]=47
 ·have e5:(s[0].toNat:Int)=47:=by rw[d5];rfl
  have U:Hid (qay s.data.toList=5):=by show _=_;rw[O.out,d5];rfl
  clear O d1 d2 d3 d4 d5 ne;go_enter func193,ntmps193
  go_wp2
  go_ret
  exact⟨qal (by rw[U.out];rfl),rfl⟩
 have e5:=ne 47 d5 47 rfl;by_cases d6:s[0]=62
 ·have e6:(s[0].toNat:Int)=62:=by rw[d6];rfl
  have U:Hid (qay s.data.toList=6):=by show _=_;rw[O.out,d6];rfl
  clear O d1 d2 d3 d4 d5 d6 ne;go_enter func193,ntmps193
  go_wp2
  go_ret
  exact⟨qal (by rw[U.out];rfl),rfl⟩
 have e6:=ne 62 d6 62 rfl;have U:Hid (qay s.data.toList=2):=by show _=_;rw[O.out,if_neg d1,if_neg d2,if_neg d3,if_neg d4,if_neg d5,if_neg d6]
 clear O d1 d2 d3 d4 d5 d6 ne;go_enter func193,ntmps193
 go_wp2
 go_ret
 exact⟨qal (by rw[U.out];rfl),rfl⟩
def qa3(w:World):Prop:=∃m:Int,w.cell? (zO 11 0)=some (zI m)
theorem qa3.below{w w':World}(h:qa3 w)(y:zW w w'):qa3 w':=by
 obtain⟨m,z⟩:=h;exact⟨m,(xP (y.block _ (xO _ _ z))).trans z⟩
theorem qve(l:zU)(h:l≠[46]):isNm l=(decide ((Lib.split l [46]).length<=4) && (Lib.split l [46]).all qa4):=by
 unfold isNm;rw[yf.2 h];rfl
theorem q5v(s:zT)(w:World)(U:s.size<=100000)(V:qa3 w) :
  zC 230 #[.string s] w (zR (.bool (isNm s.data.toList)) w):=by
 obtain⟨m,V⟩:=V;by_cases Y:s.data.toList=[46]
 ·obtain rfl:s=⟨#[46]⟩:=xi (Array.toList_inj.1 Y)
  clear V;go_enter func230,ntmps230
  go_wp2
  go_ret
  exact⟨rfl,xL _ _⟩
 have c0:(s.toList==[46])=false:=by rw[Lib.toList_data];exact yf.2 Y
 have Z:=zH (qve _ Y);have HS:=zH (strings_Split s ⟨#[46]⟩ m w (by omega) V (by decide));have y:(Lib.splitB ⟨#[46]⟩ 0 (Lib.countB s ⟨#[46]⟩) s).length=Lib.countB s ⟨#[46]⟩+1:=Lib.splitB_all ⟨#[46]⟩ (by decide) 0 _ s rfl;have z:(Lib.splitB ⟨#[46]⟩ 0 (Lib.countB s ⟨#[46]⟩) s).map (·.data.toList)=Lib.split s.data.toList [46]:=Lib.splitB_data ⟨#[46]⟩ 0 _ s;have J:Lib.countB s ⟨#[46]⟩<=s.size:=Lib.countB_le ⟨#[46]⟩ (by decide) _ s (yg _);clear V Y;generalize Lib.countB s ⟨#[46]⟩=c at HS y z J;generalize Lib.splitB ⟨#[46]⟩ 0 c s=L at HS y z;have HC:Hid (∀(k:Nat) (x:zT),L[k]?=some x->(w.alloc (.cells (L.map Value.string).toArray 9)).cell? (zO w.heap.size k)=some (.string x)):=by
  intro k x hx;refine qaa (xF w _) k _ ?_;simp[hx]
 have HB:Hid (zW w (w.alloc (.cells (L.map Value.string).toArray 9))):=zB _;have I:(Lib.split s.data.toList [46]).length=c+1:=by rw[<-z];simpa using y
 have HA:Hid ((Lib.split s.data.toList [46]).all qa4=L.all (fun x=>qa4 x.data.toList)):=by show _=_;rw[<-z,List.all_map];rfl
 rw[I]at Z;have HL:=zH y;clear y z I;by_cases h4:c+1<=4
 rotate_left
 ·have HT:Hid (isNm s.data.toList=false):=by show _=_;rw[Z.out,yx h4];rfl
  have c4:(4:Int)<((c+1:Nat):Int):=by omega
  clear Z HA HC h4 HL;go_enter func230,ntmps230
  go_wp2_with (go_at_call 242;refine xQ HS.out ?_;rintro e w' ⟨rfl,rfl⟩)
  go_ret
  exact⟨qas HT.out.symm,HB.out⟩
 have HT:Hid (isNm s.data.toList=L.all (fun x=>qa4 x.data.toList)):=by show _=_;rw[Z.out,HA.out,yV h4];rfl
 have c4:¬(4:Int)<((c+1:Nat):Int):=by omega
 clear Z HA;go_enter func230,ntmps230
 go_wp2_with (go_at_call 242;refine xQ HS.out ?_;rintro e w' ⟨rfl,rfl⟩)
 generalize w.alloc (.cells (L.map Value.string).toArray 9)=W at HC HB |-;clear HS c0;go_loopw [15] (fun i wr=>∃k:Nat,k<=c+1/\i=zI k/\Hid ((L.take k).all (fun x=>qa4 x.data.toList)=true)/\wr=W) (fun i _=>c+1 - (intOf i).toNat)
 case atStart=>exact⟨0,yH _,rfl,rfl,rfl⟩
 case round=>
  obtain⟨k,hk,rfl,HN,rfl⟩:=hrel;by_cases T:k<c+1
  ·have O:k<L.length:=by have:=HL.out;omega
   have hx:L[k]?=some L[k]:=yc O;have q0:=HC.out k _ hx;have HX:=zH hx;clear hx;generalize L[k]=X at q0 HX;by_cases hi:qa4 X.data.toList=true
   ·have D:Hid ((L.take (k+1)).all (fun x=>qa4 x.data.toList)=true):=by
     show _=_;rw[List.take_add_one,HX.out,List.all_append,HN.out];simp[hi]
    clear HN HX;go_wp2_with (go_at_call 72;refine(qda X _).mono ?_;rintro e w' ⟨rfl,rfl⟩;rw[hi])
    go_roundw
    case rel=>exact⟨k+1,by omega,by go_num,D,trivial⟩
    case measure=>simp[intOf];omega
   ·have hi:=ye.2 hi
    have D:Hid (L.all (fun x=>qa4 x.data.toList)=false):=by
     show _=_;rw[List.all_eq_false];exact⟨X,yl HX.out,by rw[hi];decide⟩
    clear HN HX;go_wp2_with (go_at_call 72;refine(qda X _).mono ?_;rintro e w' ⟨rfl,rfl⟩;rw[hi])
    go_ret
    exact⟨qas (by rw[HT.out,D.out]),HB.out⟩
  ·have D:Hid (L.all (fun x=>qa4 x.data.toList)=true):=by
    show _=_;have h1:=HN.out;rw[yp (by have:=HL.out;omega)]at h1;exact h1
   clear HN;go_wp2
   go_ret
   exact⟨qas (by rw[HT.out,D.out]),HB.out⟩
theorem qmw:(prog.info? 229).map (fun i=>(i.zero,i.size,i.bytes))=some (some (.agg #[zI 0,zI 0,zS,zI 0]),4,40):=by kernel_rfl
theorem q89:(prog.info? 3).map (fun i=>(i.zero,i.size,i.bytes))=some (some (zI 0),1,8):=by kernel_rfl
theorem qkp:(Value.agg #[zI 0,zI 0,zS,zI 0]).cells.size=4:=rfl
theorem qg6(t:zU)(a z:Nat):(⟨t.toArray⟩:zT).extract a z=⟨((t.drop a).take (z - a)).toArray⟩:=by
 rw[Lib.extract_eq]
theorem qrv(w:World)(B g:Nat)(t:zU)(c:Ct)(vp vo:Value)(a z:Nat)(h:CtAt w B g t c vp vo)(Z:z<=t.length)(hn:c.parts.length<=4000) :
  zC 147 #[zP g,zI a,zI z] w fun e w'=>(∃r,e=.returned r)/\CtTo w w' B g t (c.addText t a z):=by
 by_cases D:a<z
 rotate_left
 ·have HV:Hid (c.addText t a z=c):=by show _=_;unfold Ct.addText;rw[if_neg D]
  have c1:¬(a:Int)<(z:Int):=by omega
  rw[HV.out];have H:=zH h;clear HV D h;go_enter func147,ntmps147
  go_wp2
  go_end0
  exact⟨⟨_,rfl⟩,⟨⟨vp,vo,H.out⟩,Cur.refl _ _ _⟩⟩
 have HV:Hid (c.addText t a z={ c with parts:=c.parts++[⟨1,a,(t.drop a).take (z - a),0⟩] }):=by show _=_;unfold Ct.addText;rw[if_pos D]
 rw[HV.out];obtain⟨T,hT⟩:∃T,T=(⟨t.toArray⟩:zT):=⟨_,rfl⟩;have Y:T.size=t.length:=by rw[hT];simp[ByteArray.size]
 have HX:Hid (∀x:zT,x=T.extract a z->Value.string x=bs ((t.drop a).take (z - a))):=by
  rintro x rfl;rw[hT,qg6];rfl
 obtain⟨i0,hi,J,O,U⟩:=info_parts qmw;have c1:(a:Int)<(z:Int):=by omega
 have c2:(z:Int)<=(T.size:Int):=by omega
 have c3:(a:Int)<=(z:Int):=by omega
 have b0:=h.cell 0 _ rfl;have b3:=h.cell 3 _ rfl;have f3:=h.thaw 3;have b4:(w.alloc (.cells #[zI 1,zI a,.string (T.extract a z),zI 0] 229)).cell? (zO g 3)=some vp:=(h.alloc _).cell 3 _ rfl;unfold bs at b0;rw[<-hT]at b0;have V:B<=w.heap.size:=by have:=h.lt;have:=h.le;omega
 have H:=zH h;clear HV D h hT;go_enter func147,ntmps147
 go_wp2
 go_region_law (refine qa6 rfl (.tmp 13) (.tmp 23) 168 rfl B 229 i0 (.agg #[zI 0,zI 0,zS,zI 0]) 4 40 underlying168 hi J O U qkp (by decide) vp c.parts.length _ (by simp[Act.eval]) (World.ownsRow.alloc H.out.parts _) (zO _ 0) 1 1 [zI 1,zI a,.string (T.extract a z),zI 0] (by simp[Act.eval]) rfl (qcn _ _ _) (by simp[Value.oneCell']) (by unfold maxLen;omega) (by omega) (by simp;omega) ?_;intro v' w' y I X;obtain⟨g',cap',rfl,_,_⟩:=qai y (by omega);obtain⟨q3,r3⟩:=H.out.ahead ((zB _).drew) (.inl rfl) I 3 _ rfl)
 all_goals
  go_end0
  rw[HX.out _ rfl]at y;exact⟨⟨_,rfl⟩,H.out.moreTo ((zB _).drew) ⟨1,a,_,0⟩ y I⟩
variable{w:World}{B n k:Nat}{xs:List Value}
theorem qfq{e:TypeId}{v:Value}(h:w.ownsRow B e k v n xs):∃ao cap,v=.slice ao n cap:=by
 rcases h.2 with⟨rfl,rfl⟩|⟨g,cap,cur,y,_⟩
 ·exact⟨none,0,rfl⟩
 ·exact⟨_,_,y⟩
theorem qcs{g cap:Nat}{e:TypeId}(h:w.ownsRow B e k (zF g n cap) n xs)(j:Nat)(u:Value)(y:xs[j]?=some u):w.cell? (zO g j)=some u:=by
 have:=World.ownsRow.cells h (g:=g) rfl j u y;have e:((zO g 0):Addr).add j=(zO g j):=by simp only[Addr.add,xf];split<;>simp_all
 rw[e]at this;exact this
theorem qlu(L:List Nat)(k m:Nat)(h:L[k]?=some m):(qb0 L)[k]?=some (zI m):=by simp[qb0,h]
theorem qo4(k:Nat)(h:k<=1000000000):IntKind.i64.wrap (k:Int)=k:=by
 rw[IntKind.wrap_i64];omega
def qg8(k p:Nat):Value:=.agg #[zI k,zI p]
theorem qxl(w:World)(B g:Nat)(t:zU)(c:Ct)(vp vo:Value)(h:CtAt w B g t c vp vo)(T:∀m∈c.opened,m<c.parts.length)(U:c.parts.length<=4000)(V:c.opened.length<=6) :
  zC 148 #[zP g] w (zR (qg8 c.left.1 c.left.2) w):=by
 have b3:∀o,(w.alloc o).cell? (zO g 3)=some vp:=fun o=>(h.alloc o).cell 3 _ rfl;have b4:∀o,(w.alloc o).cell? (zO g 4)=some vo:=fun o=>(h.alloc o).cell 4 _ rfl;by_cases X:c.opened.length=0
 ·have Y:Hid (c.left=(0,0)):=by show _=_;unfold Ct.left;rw[List.length_eq_zero_iff.1 X];rfl
  obtain⟨ao,cap,rfl⟩:=qfq h.opened;rw[Y.out];rw[X]at b4;clear Y h T U V X;unfold qg8;go_enter func148,ntmps148
  go_wp2
  refine bodyPost_ret (qbn results148 _ _ w.heap.size _ _ rfl (qaa (xF w _)) underlying169 rfl (by kernel_rfl)) rfl ?_;exact⟨rfl,zB _⟩
 ·obtain⟨k,Z⟩:∃k,c.opened.length=k+1:=⟨c.opened.length - 1,by omega⟩
  have hx:c.opened[k]?=some c.opened[k]:=yc (by omega);have hl:c.opened.getLast?=some c.opened[k]:=by rw[List.getLast?_eq_getElem?,show c.opened.length - 1=k by omega];exact hx
  have hm:=T _ (yl hx);generalize c.opened[k]=m at hx hl hm;have hp:c.parts[m]?=some c.parts[m]:=yc hm;have Y:Hid (c.left=(7,c.parts[m].pos)):=by show _=_;unfold Ct.left qk2;rw[hl];simp only;rw[hp]
  generalize c.parts[m]=p at hp Y;obtain⟨go,capo,y,J,z⟩:=qai h.opened (by omega);obtain⟨gp,capp,D,O,I⟩:=qai h.parts (by omega);have q4:∀o,(w.alloc o).cell? (zO go k)=some (zI m):=fun o=>qcs (y▸(h.alloc o).opened) k _ (qlu _ _ _ hx);have q3:∀o,(w.alloc o).cell? (zO gp (m*4+1))=some (zI p.pos):=fun o=>qcs (D▸(h.alloc o).parts) _ _ (qeq _ _ _ hp 1 _ rfl);rw[y,Z]at b4;rw[D]at b3;rw[Y.out];have d1:(m:Int)<(c.parts.length:Int):=by omega
  generalize c.parts.length=N at b3 d1;have w1:IntKind.i64.wrap (k:Int)=k:=qo4 k (by omega);clear Y h T U J z O I y D hx hl hp hm X Z;unfold qg8;go_enter func148,ntmps148
  go_wp2
  go_region
  go_wp2
  refine bodyPost_ret (qbn results148 _ _ w.heap.size _ _ rfl (qaa (xF w _)) underlying169 rfl (by kernel_rfl)) rfl ?_;exact⟨rfl,(zB _).drew⟩
variable{f:Func}{a:Act}{w0 w:World}{p:Tmp}{g:Nat}
theorem qp1{r:Tg}(y:f.results=#[.cell p 274])(z:a.tmps.getD p undef=zP w0.heap.size)(hd:a.defers=[])(D:w.heap[w0.heap.size]?=zK (qnd r) 274)(I:zW w0 w) :
  bodyPost prog f (zR (qeh r) w0) .ret a w:=
 bodyPost_ret (qbn y _ _ w0.heap.size _ _ z (qaa D) underlying274 rfl (by kernel_rfl)) hd ⟨rfl,I⟩
theorem qx4{t:TypeId}{u0 u1 u2 u3 u4:Value}(h:w.heap[g]?=zK #[u0,u1,u2,u3,u4] t)(v0 v1 v2 v3 v4:Value) :
  (((((w.setCell (zO g 0) v0).setCell (zO g 1) v1).setCell (zO g 2) v2).setCell (zO g 3) v3).setCell (zO g 4) v4).heap[g]?=zK #[v0,v1,v2,v3,v4] t:=
 xG _ _ _ _ _ _ (xG _ _ _ _ _ _ (xG _ _ _ _ _ _ (xG _ _ _ _ _ _ (xG _ _ _ _ _ _ h))))
theorem qoc{B:Nat}{a:World}(h:Below B a w)(y:B<=g)(v0 v1 v2 v3 v4:Value):Below B a (((((w.setCell (zO g 0) v0).setCell (zO g 1) v1).setCell (zO g 2) v2).setCell (zO g 3) v3).setCell (zO g 4) v4):=
 ((((h.setCell (p:=zO g 0) y v0).setCell (p:=zO g 1) y v1).setCell (p:=zO g 2) y v2).setCell (p:=zO g 3) y v3).setCell (p:=zO g 4) y v4
structure TgSlot(w0 w:World):Prop where
 blk:w.heap[w0.heap.size]?=zK #[zI 0,zI 0,zS,zS,zS] 274
 below:zW w0 w
theorem qd4(w0:World):TgSlot w0 (w0.alloc (.cells #[zI 0,zI 0,zS,zS,zS] 274)):=⟨xF w0 _,zB _⟩
theorem TgSlot.next{w':World}(h:TgSlot w0 w)(y:zW w w'):TgSlot w0 w':=
 ⟨(y.block _ (zL h.blk)).trans h.blk,h.below.trans (y.mono h.below.size)⟩
theorem TgSlot.facts(h:TgSlot w0 w):(w.cell? (zO w0.heap.size 0)=some (zI 0)/\w.cell? (zO w0.heap.size 1)=some (zI 0)/\w.cell? (zO w0.heap.size 2)=some (zS)/\w.cell? (zO w0.heap.size 3)=some (zS)/\w.cell? (zO w0.heap.size 4)=some (zS)) /\
  w.frozen? (zO w0.heap.size 0)=false/\w.frozen? (zO w0.heap.size 1)=false/\w.frozen? (zO w0.heap.size 2)=false/\w.frozen? (zO w0.heap.size 3)=false/\w.frozen? (zO w0.heap.size 4)=false:=by
 have c:=qaa h.blk;refine⟨⟨c 0 _ rfl,c 1 _ rfl,c 2 _ rfl,c 3 _ rfl,c 4 _ rfl⟩,?_⟩;simp[World.frozen?,h.blk]
theorem qgr(r:Tg)(y:f.results=#[.cell p 274])(z:a.tmps.getD p undef=zP w0.heap.size)(hd:a.defers=[])(D:TgSlot w0 w){v0 v1 v2 v3 v4:Value}(I:#[v0,v1,v2,v3,v4]=qnd r) :
  bodyPost prog f (zR (qeh r) w0) .ret a (((((w.setCell (zO w0.heap.size 0) v0).setCell (zO w0.heap.size 1) v1).setCell (zO w0.heap.size 2) v2).setCell (zO w0.heap.size 3) v3).setCell (zO w0.heap.size 4) v4):=
 qp1 (r:=r) y z hd (by rw[qx4 D.blk,I]) (qoc D.below (yg _) _ _ _ _ _)
theorem qp2(k:Nat)(s:zT)(w:World)(y:s.size<=100000)(z:qa3 w) :
  zC 195 #[zI k,.string s] w (zR (qeh (qcc k s.data.toList)) w):=by
 have D:=zH (fun o=>q5v s (w.alloc o) y (z.below (zB _)));clear z;by_cases I:k=6
 ·subst I
  clear D;by_cases J:qa4 s.data.toList=true
  ·have O:Hid (qcc 6 s.data.toList=⟨6,0,s.data.toList,[],[]⟩):=by show _=_;unfold qcc;simp[J]
   rw[O.out];clear O;go_enter func195,ntmps195
   go_wp2_with (go_at_call 72;refine cm (qda s _) ?_;rw[J])
   exact qp1 (r:=⟨6,0,s.data.toList,[],[]⟩) results195 rfl rfl (xF w _) (zB _)
  ·have J:=ye.2 J
   have O:Hid (qcc 6 s.data.toList=⟨6,3,[],[],[]⟩):=by show _=_;unfold qcc;simp[J]
   rw[O.out];clear O;go_enter func195,ntmps195
   go_wp2_with (go_at_call 72;refine cm (qda s _) ?_;rw[J])
   exact qp1 (r:=⟨6,3,[],[],[]⟩) results195 rfl rfl (xF w _) (zB _)
 ·have c6:¬(k:Int)=6:=by omega
  by_cases J:isNm s.data.toList=true
  ·have O:Hid (qcc k s.data.toList=⟨k,0,s.data.toList,[],[]⟩):=by show _=_;unfold qcc;simp[J,I]
   rw[O.out];clear O;rw[J]at D;clear I;go_enter func195,ntmps195
   go_wp2_with (go_at_call 230;refine xQ (D.out _) ?_;rintro e w' ⟨rfl,T⟩;have U:=(qd4 w).next T;obtain⟨⟨k0,k1,k2,k3,k4⟩,f0,f1,f2,f3,f4⟩:=U.facts;have V:=zH U;clear T U)
   exact qgr (w0:=w) ⟨k,0,s.data.toList,[],[]⟩ results195 rfl rfl V.out rfl
  ·have J:=ye.2 J
   have O:Hid (qcc k s.data.toList=⟨k,3,[],[],[]⟩):=by show _=_;unfold qcc;simp[J,I]
   rw[O.out];clear O;rw[J]at D;clear I;go_enter func195,ntmps195
   go_wp2_with (go_at_call 230;refine xQ (D.out _) ?_;rintro e w' ⟨rfl,T⟩;have U:=(qd4 w).next T;obtain⟨⟨k0,k1,k2,k3,k4⟩,f0,f1,f2,f3,f4⟩:=U.facts;have V:=zH U;clear T U)
   exact qgr (w0:=w) ⟨k,3,[],[],[]⟩ results195 rfl rfl V.out rfl
variable{w:World}{B g:Nat}{c:Ct}{vp vo:Value}
theorem CtAt.two{t:zU}(h:CtAt w B g t c vp vo)(j:Nat)(v:Value)(y:[bs t,bs c.op,bs c.cl,vp,vo][j]?=some v):∀o o',((w.alloc o).alloc o').cell? (zO g j)=some v:=fun o o'=>((h.alloc o).alloc o').cell j v y
theorem CtAt.two'{t:zU}(h:CtAt w B g t c vp vo)(j:Nat):∀o o',((w.alloc o).alloc o').frozen? (zO g j)=false:=fun o o'=>((h.alloc o).alloc o').thaw j
theorem CtAt.to{w':World}{t:zU}(h:CtAt w B g t c vp vo)(y:zW w w'):CtTo w w' B g t c:=⟨⟨_,_,h.below y⟩,Cur.of_below y (yh h.le (yj h.lt))⟩
theorem q7k(w:World)(B g:Nat)(t:zU)(c:Ct)(vp vo:Value)(h:CtAt w B g t c vp vo)(one:Tg)(a:Nat)(y:one.slip≠0) :
  zC 152 #[zP g,qeh one,zI a] w fun e w'=>e=.returned (zI (c.take one a).1)/\CtTo w w' B g t (c.take one a).2:=by
 have z:Hid (c.take one a=(one.slip,c)):=by show _=_;unfold Ct.take;rw[if_pos y]
 rw[z.out];have H:=zH h;have c1:¬(one.slip:Int)=0:=by omega
 clear z h y;unfold qeh bs;go_enter func152,ntmps152
 go_wp2
 go_ret
 exact⟨rfl,H.out.to (zB _)⟩
theorem qwl(w:World)(B g:Nat)(t:zU)(c:Ct)(vp vo:Value)(h:CtAt w B g t c vp vo)(n op cl:zU)(a:Nat) :
  zC 152 #[zP g,qeh ⟨7,0,n,op,cl⟩,zI a] w fun e w'=>e=.returned (zI (0:Nat))/\CtTo w w' B g t c:=by
 have H:=zH h;clear h;unfold qeh bs;go_enter func152,ntmps152
 go_wp2
 go_ret
 exact⟨rfl,H.out.to ((zB _).alloc (by simp) _)⟩
theorem qwj(w:World)(B g:Nat)(t:zU)(c:Ct)(vp vo:Value)(h:CtAt w B g t c vp vo)(k:Nat)(n op cl:zU)(a:Nat)(U:k=2\/k=6)(V:c.parts.length<=4000) :
  zC 152 #[zP g,qeh ⟨k,0,n,op,cl⟩,zI a] w fun e w'=>e=.returned (zI (0:Nat))/\CtTo w w' B g t { c with parts:=c.parts++[⟨k,a,n,0⟩] }:=by
 obtain⟨i0,X,D,I,J⟩:=info_parts qmw;have b3:=h.two 3 _ rfl;have f3:=h.two' 3;have b4:∀o o' o'',(((w.alloc o).alloc o').alloc o'').cell? (zO g 3)=some vp:=fun o o' o''=>(((h.alloc o).alloc o').alloc o'').cell 3 _ rfl;have O:B<=w.heap.size:=by have:=h.lt;have:=h.le;omega
 have H:=zH h;clear h;unfold qeh bs;rcases U with rfl|rfl
 all_goals
  go_enter func152,ntmps152
  go_wp2
  go_region_law (refine qa6 rfl (.tmp 119) (.tmp 121) 168 rfl B 229 i0 (.agg #[zI 0,zI 0,zS,zI 0]) 4 40 underlying168 X D I J qkp (by decide) vp c.parts.length _ (by simp[Act.eval]) (World.ownsRow.alloc (World.ownsRow.alloc (World.ownsRow.alloc H.out.parts _) _) _) (zO _ 0) 1 1 [_,zI a,.string ⟨n.toArray⟩,zI 0] (by simp[Act.eval]) rfl (qcn _ _ _) (by simp[Value.oneCell']) (by unfold maxLen;omega) (by omega) (by simp;omega) ?_;intro v' w' y z T;obtain⟨g',cap',rfl,_,_⟩:=qai y (by omega);obtain⟨q3,r3⟩:=H.out.ahead (((zB _).alloc (by simp) _).alloc (by simp<;>omega) _).drew (.inl rfl) z 3 _ rfl)
  all_goals
   go_wp2
   go_ret
   exact⟨rfl,H.out.moreTo (((zB _).alloc (by simp) _).alloc (by simp<;>omega) _).drew ⟨_,a,n,0⟩ y z⟩
theorem qwk(w:World)(B g:Nat)(t:zU)(c:Ct)(vp vo:Value)(h:CtAt w B g t c vp vo)(k:Nat)(n op cl:zU)(a:Nat)(z:k=3\/k=4)(D:c.opened.length=6) :
  zC 152 #[zP g,qeh ⟨k,0,n,op,cl⟩,zI a] w fun e w'=>e=.returned (zI (8:Nat))/\CtTo w w' B g t c:=by
 obtain⟨ao,cap,y⟩:=qfq h.opened;have b4:=h.two 4 _ rfl;rw[y,D]at b4;have H:=zH h;clear h D y;unfold qeh bs;rcases z with rfl|rfl
 all_goals
  go_enter func152,ntmps152
  go_wp2
  go_ret
  exact⟨rfl,H.out.to ((zB _).alloc (by simp) _)⟩
theorem q4e(w:World)(B g:Nat)(t:zU)(c:Ct)(vp vo:Value)(h:CtAt w B g t c vp vo)(n op cl:zU)(a:Nat)(z:c.opened.length=0) :
  zC 152 #[zP g,qeh ⟨5,0,n,op,cl⟩,zI a] w fun e w'=>e=.returned (zI (5:Nat))/\CtTo w w' B g t c:=by
 obtain⟨ao,cap,y⟩:=qfq h.opened;have b4:=h.two 4 _ rfl;rw[y,z]at b4;have H:=zH h;clear h z y;unfold qeh bs;go_enter func152,ntmps152
 go_wp2
 go_ret
 exact⟨rfl,H.out.to ((zB _).alloc (by simp) _)⟩
end Go.Proofs.YtfkhljmiehdgmaaGreatDoor
