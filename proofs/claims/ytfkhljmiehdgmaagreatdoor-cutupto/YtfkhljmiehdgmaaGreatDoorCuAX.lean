/-
  Steps of the proof.
-/
import Derived.Test.YtfkhljmiehdgmaaGreatDoorCuAT
import Derived.Shelf.Strings.SlTrimAscii
import Derived.Test.YtfkhljmiehdgmaaGreatDoorCuAU
import Derived.Test.YtfkhljmiehdgmaaGreatDoorCuAS
set_option maxRecDepth 100000
set_option maxHeartbeats 40000000
namespace Go.Proofs.YtfkhljmiehdgmaaGreatDoor
open Go.RowKit Go.Proofs.Tryz Pl
variable{w:World}{B g:Nat}{F:Fix}{S:List Src}{vv:Value}{s:Sr}
theorem SeAt.obj(h:SeAt w B F S vv s):∃es clock,w.heap[F.be]?=some (.map es clock)/\es.size=s.ends.length:=by
 obtain⟨es,c,y,z⟩:=h.ends;refine⟨es,c,y,?_⟩;have:=yE List.length z;simpa [qo2]using this
theorem zfp{b:Nat}{es:Array MapEntry}{clock:Nat}(h:w.heap[b]?=some (.map es clock)):(Builtin.len_ #[175] 3 #[.map (some b)]).run prog w=.ok (zI (es.size:Nat)) w:=by
 unfold Builtin.len_;simp[go_sem,run_underlying underlying175,Go.MapKept.run_getObj_map h,Result.andThen]
theorem SeAt.len(h:SeAt w B F S vv s):(Builtin.len_ #[175] 3 #[.map (some F.be)]).run prog w=.ok (zI (s.ends.length:Nat)) w:=by
 obtain⟨es,c,y,z⟩:=h.obj;rw[<-z];exact zfp y
def qox(w:World)(g:Nat)(a b c d:Value):World:=(((w.setCell (zO g 5) a).setCell (zO g 6) b).setCell (zO g 7) c).setCell (zO g 8) d
theorem q7z{k:Nat}(h:k≠g)(a b c d:Value):(qox w g a b c d).heap[k]?=w.heap[k]?:=by
 have e:∀(w:World) (j:Nat) (v:Value),(w.setCell (zO g j) v).heap[k]?=w.heap[k]?:=fun w j v=>xK _ _ _ _ h;unfold qox;rw[e,e,e,e]
theorem q0h{a:World}(h:Below B a w)(D:B<=g)(x y z u:Value):Below B a (qox w g x y z u):=
 (((h.setCell (p:=zO g 5) D x).setCell (p:=zO g 6) D y).setCell (p:=zO g 7) D z).setCell (p:=zO g 8) D u
theorem SeAt.fault(h:SeAt w B F S vv s)(f:Ft):SeAt (qox w F.g (zI f.code) (zI f.kind) (.string ⟨f.place.toArray⟩) (zI f.pos)) B F S vv { s with fault:=f }/\Cue B F w (qox w F.g (zI f.code) (zI f.kind) (.string ⟨f.place.toArray⟩) (zI f.pos)):=by
 have y:=fun k (D:k≠F.g)=>q7z (w:=w) D (zI f.code) (zI f.kind) (.string ⟨f.place.toArray⟩) (zI f.pos)
 have z:(qox w F.g (zI f.code) (zI f.kind) (.string ⟨f.place.toArray⟩) (zI f.pos)).heap[F.g]?=zK (qlm F S.length vv f) 178:=
  qhu (t:=178) [zI f.code,zI f.kind,.string ⟨f.place.toArray⟩,zI f.pos] w 5 [zF F.bS S.length S.length,.map (some F.bp),.map (some F.be),.map (some F.bn),vv] [zI s.fault.code,zI s.fault.kind,bs s.fault.place,zI s.fault.pos] (by have:=h.blk;unfold qlm at this;simpa using this) rfl rfl
 have I:=q0h (xL B w) h.le.1 (zI f.code) (zI f.kind) (.string ⟨f.place.toArray⟩) (zI f.pos);generalize qox w F.g _ _ _ _=w' at y z I |-;refine⟨⟨z,h.srcKept fun k _ J _=>y k J,h.places.heap (y _ (qak h.blk h.places).symm),h.ends.heap (y _ h.apart.1.symm),h.le,h.apart⟩,I,fun k _ J _=>y k J⟩
theorem ql7(S:List Src)(w:World)(B:Nat)(F:Fix)(vv:Value)(s:Sr)(e:En)(kind:Int)(pos:Nat)(h:SeAt w B F S vv s)(z:e.1<S.length)(D:B<=w.heap.size) :
  zC 107 #[zP F.g,qge e,zI kind,zI pos] w fun ed w'=>(∃r,ed=.returned r)/\SeAt w' B F S vv (s.wrong S e.1 kind pos)/\Cue B F w w':=by
 obtain⟨src,y⟩:∃src,S[e.1]?=some src:=⟨S[e.1],yc z⟩;have I:qom S e.1=src.name:=by unfold qom;rw[y]
 have b0:∀o,(w.alloc o).cell? (zO F.g 0)=some (zF F.bS S.length S.length):=fun o=>(h.alloc o).cell 0 _ rfl;have b1:∀o,(w.alloc o).cell? (zO F.bS (e.1*2))=some (.string ⟨src.name.toArray⟩):=fun o=>(h.alloc o).src.name e.1 src y;have c1:(e.1:Int)<(S.length:Int):=by omega
 have J:Hid (∀o,SeAt (qox (w.alloc o) F.g (zI 3) (zI kind) (.string ⟨src.name.toArray⟩) (zI pos)).drew B F S vv (s.wrong S e.1 kind pos)/\Cue B F w (qox (w.alloc o) F.g (zI 3) (zI kind) (.string ⟨src.name.toArray⟩) (zI pos)).drew):=fun o=>by
  have O:=SeAt.fault (h.alloc o) ⟨3,kind,qom S e.1,pos⟩;rw[I]at O;have T:Cue B F w (w.alloc o):=Cue.of_below ((xL w.heap.size w).alloc (yg _) o) D;have U:=T.trans O.2;refine⟨?_,U.trans (Cue.of_below (xL _ _).drew (yh D U.below.size))⟩;have:=O.1.drew;unfold Sr.wrong;rw[I];exact this
 have y5:∀o,(w.alloc o).cell? (zO F.g 5)=some _:=fun o=>(h.alloc o).cell 5 _ rfl;have y6:∀o,(w.alloc o).cell? (zO F.g 6)=some _:=fun o=>(h.alloc o).cell 6 _ rfl;have y7:∀o,(w.alloc o).cell? (zO F.g 7)=some _:=fun o=>(h.alloc o).cell 7 _ rfl;have y8:∀o,(w.alloc o).cell? (zO F.g 8)=some _:=fun o=>(h.alloc o).cell 8 _ rfl;have z5:∀o,(w.alloc o).frozen? (zO F.g 5)=false:=fun o=>(h.alloc o).thaw 5;have z6:∀o,(w.alloc o).frozen? (zO F.g 6)=false:=fun o=>(h.alloc o).thaw 6;have z7:∀o,(w.alloc o).frozen? (zO F.g 7)=false:=fun o=>(h.alloc o).thaw 7;have z8:∀o,(w.alloc o).frozen? (zO F.g 8)=false:=fun o=>(h.alloc o).thaw 8;rw[qbj];unfold qao bs;clear h I y;go_enter func107,ntmps107
 go_wp2
 go_region
 all_goals
  go_wp2
  go_end0
  unfold qox at J;exact⟨⟨_,rfl⟩,J.out _⟩
section
open Go.Maps
variable{B:Nat}{F:Fix}{w w':World}{S:List Src}{vv:Value}{s:Sr}{M:List Nat}
def qnn(l:List (En×Nat)):List (Value×Value):=l.map fun p=>(qge p.1,zI (p.2:Nat))
def qe2(l:List Int):List Value:=l.map fun z=>zI z
def qip(F:Fix)(i g n:Nat):List Value:=[F.pv i,zF g n n]
def qdw(F:Fix):List Nat->List (Nat×List Int)->List Value
 |g::M,v::l=>qip F v.1 g v.2.length++qdw F M l
 |_,_=>[]
theorem qn7(F:Fix)(g:Nat)(v:Nat×List Int):∀(M:List Nat) (l:List (Nat×List Int)),M.length=l.length->qdw F (M++[g]) (l++[v])=qdw F M l++qip F v.1 g v.2.length
 |[],[],_=>by simp[qdw]
 |h::M,u::l,e=>by
   show qip F u.1 h u.2.length++qdw F (M++[g]) (l++[v])=_;rw[qn7 F g v M l (by simpa using e)];simp[qdw]
 |[],v::l,h=>by simp at h
 |g::M,[],h=>by simp at h
theorem qn8(F:Fix)(f:List Int->List Int)(y:∀l,(f l).length=l.length):∀(M:List Nat) (l:List (Nat×List Int)) (k:Nat),qdw F M (l.modify k fun x=>(x.1,f x.2))=qdw F M l
 |[],l,k=>by simp[qdw]
 |g::M,[],k=>by simp[qdw]
 |g::M,v::l,0=>by simp[qdw,y]
 |g::M,v::l,k+1=>by
   show qdw F (g::M) (v::l.modify k _)=_;show qip F v.1 g v.2.length++qdw F M (l.modify k _)=_;rw[qn8 F f y M l k];rfl
structure SvAt(w:World)(B:Nat)(F:Fix)(S:List Src)(vv:Value)(M:List Nat)(s:Sr):Prop where
 se:SeAt w B F S vv s
 nums:qfj w F.bn (qnn s.nums)
 row:w.ownsRow B 205 2 vv s.vis.length (qdw F M s.vis)
 len:M.length=s.vis.length
 marks:∀(i g:Nat) (v:Nat×List Int),M[i]?=some g->s.vis[i]?=some v->w.heap[g]?=zK ((qe2 v.2).toArray) 3/\B<=g
 one:M.Nodup
 apart:F.bn≠F.be/\F.bn≠F.bp/\B<=F.bn
structure Cuv(B:Nat)(F:Fix)(w w':World):Prop where
 below:Below B w w'
 keep:∀k cs t fz,w.heap[k]?=some (.cells cs t fz)->k≠F.g->t≠205->t≠3->w'.heap[k]?=w.heap[k]?
theorem Cuv.refl(B:Nat)(F:Fix)(w:World):Cuv B F w w:=⟨xL _ _,fun _ _ _ _ _ _ _ _=>rfl⟩
theorem Cuv.trans{a b c:World}(h:Cuv B F a b)(k:Cuv B F b c):Cuv B F a c:=
 ⟨h.below.trans k.below,fun i cs t fz y z D I=>(k.keep i cs t fz ((h.keep i cs t fz y z D I).trans y) z D I).trans (h.keep i cs t fz y z D I)⟩
theorem Cuv.of_below(h:zW w w')(y:B<=w.heap.size):Cuv B F w w':=
 ⟨h.mono y,fun k _ _ _ z _ _ _=>h.block k (ya.1 z).1⟩
theorem Cuv.of_cue(h:SeAt w B F S vv s)(y:Cue B F w w'):Cuv B F w w':=
 ⟨y.below,fun k _ _ _ z D _ _=>y.keep k (ya.1 z).1 D (qak z h.ends)⟩
theorem qef:(205:TypeId)≠178:=by decide
theorem qpt:(205:TypeId)≠173:=by decide
theorem qt9:(205:TypeId)≠229:=by decide
theorem qjg:(205:TypeId)≠3:=by decide
theorem qgp:(3:TypeId)≠178:=by decide
theorem quc:(3:TypeId)≠173:=by decide
theorem qzy:(3:TypeId)≠229:=by decide
theorem SvAt.kept(h:SvAt w B F S vv M s)(y:SeAt w' B F S vv s)(z:∀k,k<w.heap.size->(∀cs t fz,w.heap[k]?=some (.cells cs t fz)->t=205\/t=3)->k≠F.be->w'.heap[k]?=w.heap[k]?):SvAt w' B F S vv M s:=by
 refine⟨y,?_,?_,h.len,?_,h.one,h.apart⟩
 ·obtain⟨es,c,D,I⟩:=h.nums
  exact⟨es,c,(z _ h.nums.lt (fun cs t fz e=>by rw[D]at e;cases e) h.apart.1).trans D,I⟩
 ·refine qab h.row fun k J=>?_
  obtain⟨cur,O⟩:=qac h.row k J;exact z k (ya.1 O).1 (fun cs t fz e=>by rw[O]at e;injection e with e;injection e with _ e _;exact .inl e.symm) (qak O h.se.ends)
 ·intro i g v T J
  obtain⟨U,V⟩:=h.marks i g v T J;exact⟨(z g (ya.1 U).1 (fun cs t fz e=>by rw[U]at e;injection e with e;injection e with _ e _;exact .inr e.symm) (qak U h.se.ends)).trans U,V⟩
theorem SvAt.below(h:SvAt w B F S vv M s)(y:zW w w'):SvAt w' B F S vv M s:=h.kept (h.se.below y) fun k z _ _=>y.block k z
theorem SvAt.alloc(h:SvAt w B F S vv M s)(o:Obj):SvAt (w.alloc o) B F S vv M s:=h.below (zB o)
theorem SvAt.drew(h:SvAt w B F S vv M s):SvAt w.drew B F S vv M s:=h.below (xL _ _).drew
theorem SvAt.turn{s':Sr}(h:SvAt w B F S vv M s)(z:SeAt w' B F S vv s')(D:Cue B F w w')(I:s'.nums=s.nums)(J:s'.vis=s.vis):SvAt w' B F S vv M s':=by
 have O:∀k,k<w.heap.size->(∀cs t fz,w.heap[k]?=some (.cells cs t fz)->t=205\/t=3)->k≠F.be->w'.heap[k]?=w.heap[k]?:=fun k O T y=>D.keep k O (fun e=>by
  subst e;rcases T _ _ _ h.se.blk with q|q
  ·exact qef q.symm
  ·exact qgp q.symm) y
 refine⟨z,?_,?_,by rw[J];exact h.len,?_,h.one,h.apart⟩
 ·obtain⟨es,c,U,V⟩:=h.nums
  rw[I];exact⟨es,c,(O _ h.nums.lt (fun cs t fz e=>by rw[U]at e;cases e) h.apart.1).trans U,V⟩
 ·rw[J]
  refine qab h.row fun k J=>?_;obtain⟨cur,D⟩:=qac h.row k J;exact O k (ya.1 D).1 (fun cs t fz e=>by rw[D]at e;injection e with e;injection e with _ e _;exact .inl e.symm) (qak D h.se.ends)
 ·rw[J]
  intro i g v X J;obtain⟨Y,Z⟩:=h.marks i g v X J;exact⟨(O g (ya.1 Y).1 (fun cs t fz e=>by rw[Y]at e;injection e with e;injection e with _ e _;exact .inr e.symm) (qak Y h.se.ends)).trans Y,Z⟩
theorem SvAt.far(h:SvAt w B F S vv M s){G:Nat}{x:Sx}(y:StIn w G x)(z:∀k,k≠G->w'.heap[k]?=w.heap[k]?):SvAt w' B F S vv M s:=
 h.kept (h.se.far y z) fun k _ D _=>z k (fun e=>by
  subst e;rcases D _ _ _ y with q|q
  ·exact absurd q (by decide)
  ·exact absurd q (by decide))
theorem SvAt.mark(h:SvAt w B F S vv M s){v g:Nat}(Z:M[v]?=some g)(a:Nat)(m:Int):SvAt (w.setCell (zO g a) (zI m)) B F S vv M (s.mark v a m)/\Cuv B F w (w.setCell (zO g a) (zI m)):=by
 have y:∀k,k≠g->(w.setCell (zO g a) (zI m)).heap[k]?=w.heap[k]?:=fun k hk=>xK _ _ _ _ hk;have U:v<s.vis.length:=by rw[<-h.len];exact(yb.1 Z).1
 obtain⟨u,hu⟩:∃u,s.vis[v]?=some u:=⟨_,yc U⟩;obtain⟨hb,hB⟩:=h.marks v g u Z hu;have D:=xG w g a _ _ (zI m) hb;have J:F.bn≠g:=fun e=>by
  obtain⟨es,c,T,_⟩:=h.nums;rw[e,hb]at T;cases T
 have V:SeAt (w.setCell (zO g a) (zI m)) B F S vv (s.mark v a m):=by
  obtain⟨cs',fz',hc⟩:=h.se.src.blk;refine⟨(y _ (qae h.se.blk hb qgp.symm)).trans h.se.blk,h.se.src.kept (y _ (qae hc hb quc.symm)) (fun i s' q hs hv=>?_),h.se.places.heap (y _ (qak hb h.se.places).symm),h.se.ends.heap (y _ (qak hb h.se.ends).symm),h.se.le,h.se.apart⟩;obtain⟨cur,X⟩:=qac (h.se.src.row i s' hs) q hv;exact y q (qae X hb qzy.symm)
 have I:(s.mark v a m).vis.length=s.vis.length:=by unfold Sr.mark;simp
 refine⟨⟨V,h.nums.heap (y _ J),?_,by rw[I];exact h.len,?_,h.one,h.apart⟩,⟨(xL _ _).setCell (p:=zO g a) hB _,fun k cs t fz hk _ _ h3=>y k (fun e=>by subst e;rw[hb]at hk;injection hk with hk;injection hk with _ hk _;exact h3 hk.symm)⟩⟩
 ·rw[I]
  have e:qdw F M (s.mark v a m).vis=qdw F M s.vis:=qn8 F (fun l=>l.set a m) (by simp) M s.vis v;rw[e];refine qab h.row fun k hk=>y k ?_;obtain⟨cur,hc⟩:=qac h.row k hk;exact qae hc hb qjg
 ·intro i g' v' hi z
  have z:(s.vis.modify v fun x=>(x.1,x.2.set a m))[i]?=some v':=z;rw[List.getElem?_modify]at z;by_cases O:v=i
  ·subst O
   rw[Z]at hi;obtain rfl:=yk hi;rw[hu]at z;simp only[if_true,Option.map_eq_map,Option.map_some,Option.some.injEq]at z;subst z;refine⟨?_,hB⟩;rw[D];simp[qe2,List.map_set]
  ·obtain⟨v0,e1,e2⟩:∃v0,s.vis[i]?=some v0/\v0=v':=by
    cases hq:s.vis[i]? with
    |none=>rw[hq]at z;cases z
    |some v0=>rw[hq]at z;simp[O]at z;exact⟨v0,rfl,z⟩
   subst e2;obtain⟨h1,h2⟩:=h.marks i g' v0 hi e1;refine⟨(y g' (fun e=>?_)).trans h1,h2⟩;subst e;have Y:=(yb.1 hi).1;exact O ((List.getElem?_inj (yb.1 Z).1 h.one).1 (Z.trans hi.symm))
end
theorem zbh(w:World)(B g:Nat)(t:zU)(c:Ct)(vp vo:Value)(h:CtAt w B g t c vp vo)(one:Tg)(y:TgOk one)(a:Nat)(z:c.parts.length<=4000)(D:c.opened.length<=6)(I:∀m∈c.opened,m<c.parts.length) :
  zC 152 #[zP g,qeh one,zI a] w fun e w'=>e=.returned (zI (c.take one a).1)/\CtTo w w' B g t (c.take one a).2:=by
 by_cases J:one.slip≠0
 ·exact q7k w B g t c vp vo h one a J
 obtain⟨kind,slip,n,op,cl⟩:=one;obtain rfl:slip=0:=by simpa using J
 have O:=y.kind;simp only at O;rcases(show kind=2\/kind=6\/kind=3\/kind=4\/kind=5\/kind=7\/kind=8 by omega)with rfl|rfl|rfl|rfl|rfl|rfl|rfl
 ·exact qwj w B g t c vp vo h 2 n op cl a (.inl rfl) z
 ·exact qwj w B g t c vp vo h 6 n op cl a (.inr rfl) z
 ·by_cases T:c.opened.length=6
  ·have e:c.take ⟨3,0,n,op,cl⟩ a=(8,c):=by simp[Ct.take,T]
   rw[e];exact qwk w B g t c vp vo h 3 n op cl a (.inl rfl) T
  ·have e:c.take ⟨3,0,n,op,cl⟩ a=(0,{ c with parts:=c.parts++[⟨3,a,n,0⟩],opened:=c.opened++[c.parts.length] }):=by simp[Ct.take,T]
   rw[e];exact qwi w B g t c vp vo h 3 n op cl a (.inl rfl) (by omega) z
 ·by_cases T:c.opened.length=6
  ·have e:c.take ⟨4,0,n,op,cl⟩ a=(8,c):=by simp[Ct.take,T]
   rw[e];exact qwk w B g t c vp vo h 4 n op cl a (.inr rfl) T
  ·have e:c.take ⟨4,0,n,op,cl⟩ a=(0,{ c with parts:=c.parts++[⟨4,a,n,0⟩],opened:=c.opened++[c.parts.length] }):=by simp[Ct.take,T]
   rw[e];exact qwi w B g t c vp vo h 4 n op cl a (.inr rfl) (by omega) z
 ·by_cases U:c.opened.length=0
  ·have e:c.take ⟨5,0,n,op,cl⟩ a=(5,c):=by simp[Ct.take,List.length_eq_zero_iff.1 U]
   rw[e];exact q4e w B g t c vp vo h n op cl a U
  ·obtain⟨k,O⟩:∃k,c.opened.length=k+1:=⟨c.opened.length - 1,by omega⟩
   have V:c.opened[k]?=some c.opened[k]:=yc (by omega);have X:c.opened.getLast?=some c.opened[k]:=by rw[List.getLast?_eq_getElem?,show c.opened.length - 1=k by omega];exact V
   have Y:=I _ (yl V);generalize c.opened[k]=m at V X Y;have Z:c.parts[m]?=some c.parts[m]:=yc Y;generalize c.parts[m]=p at Z;have ht:qmg c.parts m=p.text:=by unfold qmg;rw[Z]
   by_cases he:p.text=n
   ·have e:c.take ⟨5,0,n,op,cl⟩ a=(0,{ c with parts:=qbd c.parts m c.parts.length++[⟨5,a,n,m⟩],opened:=c.opened.dropLast }):=by simp[Ct.take,X,ht,he]
    rw[e];exact zbg w B g t c vp vo h n op cl a k m O V p Z he D z
   ·have e:c.take ⟨5,0,n,op,cl⟩ a=(6,c):=by simp[Ct.take,X,ht,he]
    rw[e];exact quh w B g t c vp vo h n op cl a k m O V p Z he D
 ·exact qwl w B g t c vp vo h n op cl a
 ·exact qz5 w B g t c vp vo h n op cl a
theorem qr2(s:zT)(w:World)(y:s.size<=100000) :
  zC 204 #[.string s,.string ⟨#[9,12,13,32]⟩] w (zR (bs (Lib.trimRightS s.data.toList qdq)) w):=
 Any.strings_TrimRight_laid lays162 (by kernel_rfl) s ⟨#[9,12,13,32]⟩ w (by omega) (by decide) (ascii_of_all (by decide))
theorem que(s:zT)(w:World) :
  zC 196 #[.string s,.string ⟨#[9,12,13,32]⟩] w (zR (bs (Lib.trimLeftS s.data.toList qdq)) w):=
 Any.strings_TrimLeft_laid lays161 (by kernel_rfl) s ⟨#[9,12,13,32]⟩ w (by decide) (ascii_of_all (by decide))
theorem qpz(s:zT)(w:World) :
  zC 196 #[.string s,.string ⟨#[9,10,12,13,32]⟩] w (zR (bs (Lib.trimLeftS s.data.toList qag)) w):=
 Any.strings_TrimLeft_laid lays161 (by kernel_rfl) s ⟨#[9,10,12,13,32]⟩ w (by decide) (ascii_of_all (by decide))
theorem qz1(s:zT)(w:World)(y:s.size<=100000) :
  zC 150 #[.string s,.string ⟨#[9,10,12,13,32]⟩] w (zR (bs (Lib.trimS s.data.toList qag)) w):=
 Any.strings_Trim_laid lays160 (by kernel_rfl) s ⟨#[9,10,12,13,32]⟩ w (by omega) (by decide) (ascii_of_all (by decide))
theorem qw1(s:zT)(w:World)(y:qay s.data.toList=7) :
  zC 149 #[.string s] w (zR (qeh ⟨7,0,[],[],[]⟩) w):=by
 have z:=zH (fun w=>y▸qgs s w);clear y;go_enter func149,ntmps149
 go_wp2_with (go_at_call 193;refine cm (z.out _) ?_)
 exact qp1 (r:=⟨7,0,[],[],[]⟩) results149 rfl rfl (xF w _) (zB _)
theorem q79(s:zT)(w:World)(r:Tg)(y:qay s.data.toList=2)
  (z:∀o,zC 195 #[zI (2:Nat),.string s] (w.alloc o) fun e w'=>e=.returned (qeh r)/\Below (w.alloc o).heap.size (w.alloc o) w') :
  zC 149 #[.string s] w (zR (qeh r) w):=by
 have D:=zH (fun w=>y▸qgs s w);have I:=zH z;have J:Hid (#[Value.int .i64 r.kind,zI r.slip,bs r.name,bs r.op,bs r.cl]=qnd r):=rfl;clear y z;unfold qeh at I;unfold bs at I J;generalize (r.kind:Int)=r0 at I J;generalize (r.slip:Int)=r1 at I J;generalize (⟨r.name.toArray⟩:zT)=r2 at I J;generalize (⟨r.op.toArray⟩:zT)=r3 at I J;generalize (⟨r.cl.toArray⟩:zT)=r4 at I J;go_enter func149,ntmps149
 go_wp2_with (first
   |(go_at_call 193;refine cm (D.out _) ?_)
   | (go_at_call 195;refine xQ (I.out _) ?_;rintro e w' ⟨rfl,O⟩;have T:=(qd4 w).next O;obtain⟨⟨k0,k1,k2,k3,k4⟩,f0,f1,f2,f3,f4⟩:=T.facts;have U:=zH T;clear O T))
 exact qgr (w0:=w) r results149 rfl rfl U.out J.out
theorem q78(s:zT)(w:World)(r:Tg)(K:Nat)(L:zT)(z:qay s.data.toList=K)(D:K≠2)(I:K≠7)(J:K≠8)(O:s.size≠0)(T:qa3 w)
  (U:∀w,zC 196 #[.string (s.extract 1 s.size),.string ⟨#[9,10,12,13,32]⟩] w (zR (.string L) w))
  (V:∀w,qa3 w->zC 195 #[zI K,.string L] w (zR (qeh r) w)) :
  zC 149 #[.string s] w (zR (qeh r) w):=by
 have X:=zH (fun w=>z▸qgs s w);have Y:=zH V;have Z:=zH U;have HM:=zH T;have HR:Hid (#[Value.int .i64 r.kind,zI r.slip,bs r.name,bs r.op,bs r.cl]=qnd r):=rfl;have c1:(1:Int)<=(s.size:Int):=by omega
 have e7:¬(K:Int)=7:=by omega
 have e8:¬(K:Int)=8:=by omega
 have e2:¬(K:Int)=2:=by omega
 clear z D V U T I J O;unfold qeh at Y;unfold bs at Y HR;generalize (r.kind:Int)=r0 at Y HR;generalize (r.slip:Int)=r1 at Y HR;generalize (⟨r.name.toArray⟩:zT)=r2 at Y HR;generalize (⟨r.op.toArray⟩:zT)=r3 at Y HR;generalize (⟨r.cl.toArray⟩:zT)=r4 at Y HR;go_enter func149,ntmps149
 go_wp2_with (first
   |(go_at_call 193;refine cm (X.out _) ?_)
   |(go_at_call 196;refine xQ (Z.out _) ?_;rintro e w' ⟨rfl,hb⟩;have y:=(show Hid _ from(qd4 w).next hb);clear hb)
   | (go_at_call 195;refine xQ (Y.out _ (qa3.below HM.out (TgSlot.below y.out))) ?_;rintro e w' ⟨rfl,hb⟩;have hS:=TgSlot.next y.out hb;obtain⟨⟨k0,k1,k2,k3,k4⟩,f0,f1,f2,f3,f4⟩:=hS.facts;have HS:=zH hS;clear hb hS))
 exact qgr (w0:=w) r results149 rfl rfl HS.out HR.out
theorem q42(s:zT)(w:World)(D:s.size<=100000)(I:qa3 w)(J:qay s.data.toList≠8) :
  zC 149 #[.string s] w (zR (qeh (qba s.data.toList)) w):=by
 by_cases O:qay s.data.toList=7
 ·have T:qba s.data.toList=⟨7,0,[],[],[]⟩:=by unfold qba;rw[if_pos O]
  rw[T];exact qw1 s w O
 by_cases U:qay s.data.toList=2
 ·have T:qba s.data.toList=qcc 2 s.data.toList:=by unfold qba;rw[if_neg O,if_neg J,if_pos U]
  rw[T];exact q79 s w _ U fun o=>qp2 2 s (w.alloc o) D (I.below (zB _))
 have y:s.size≠0:=fun q=>U (by
  have:s.data.toList=[]:=by
   apply yC;simpa using q
  rw[this];rfl)
 have T:qba s.data.toList=qcc (qay s.data.toList) (Lib.trimLeftS (s.data.toList.drop 1) qag):=by unfold qba;rw[if_neg O,if_neg J,if_neg U]
 rw[T];have V:(s.extract 1 s.size).data.toList=s.data.toList.drop 1:=by
  rw[Lib.extract_eq];show List.take _ _=_;exact yp (by simp)
 have z:(Lib.trimLeftS (s.data.toList.drop 1) qag).length<=100000:=by
  have:=qiq (s.data.toList.drop 1) qag;have X:s.data.toList.length=s.size:=by simp
  rw[yM]at this;omega
 refine q78 s w _ _ ⟨(Lib.trimLeftS (s.data.toList.drop 1) qag).toArray⟩ rfl U O J y I (fun w=>?_) (fun w I=>?_)
 ·have:=qpz (s.extract 1 s.size) w
  rw[V]at this;exact this
 ·exact qp2 _ ⟨(Lib.trimLeftS (s.data.toList.drop 1) qag).toArray⟩ w (by simpa [ByteArray.size]using z) I
theorem qlo(w:World)(o:Obj):(w.alloc o).heap.size=w.heap.size+1:=by unfold World.alloc;simp only[Array.size_push]
variable{P:Program}{fn:Func}{t u p:Tmp}
theorem qoy{ty:TypeId}(h:fn.results=#[.tmp t,.tmp u,.cell p ty])(tmps:Array Value)(w:World)(g:Nat)(cs:Array Value)(d:TypeDesc)(y:tmps.getD p undef=zP g)
  (z:∀j v,cs.toList[j]?=some v->w.cell? (zO g j)=some v)
  (D:P.underlying ty=some d) (hd:aggD d=true) (I:(P.info? ty).map (·.size)=some cs.size) :
  (results fn tmps).run P w=.ok (.tuple #[tmps.getD t undef,tmps.getD u undef,.agg cs]) w:=by
 have J:=qbb (P:=P) w g ty cs d z D (by cases d<;>first|rfl|cases hd) I
 rw[yY]at y;simp only[results,h];simp[y,asAddr,J]
theorem q6n{W:World}{g:Nat}{cs:Array Value}(h:∀(j:Nat) (v:Value),cs.toList[j]?=some v->W.cell? (zO g j)=some v):∀(j:Nat) (v:Value),cs.toList[j]?=some v->W.drew.cell? (zO g j)=some v:=h
theorem qn4{R:Ending->World->Prop}{a:Act}{w:World}{ty:TypeId}(h:fn.results=#[.tmp t,.tmp u,.cell p ty])(g:Nat)(d:TypeDesc)(D:P.underlying ty=some d)(hd:aggD d=true)(I:(P.info? ty).map (·.size)=some 6)
  (J:a.tmps.getD p undef=zP g) (O:qfu w g) (z:a.defers=[]) (v0 v1 v2 v3 v4 v5:Value) (x y:Value) (T:a.tmps.getD t undef=x) (U:a.tmps.getD u undef=y) (V:R (.returned (.tuple #[x,y,.agg #[v0,v1,v2,v3,v4,v5]])) (set6 w g v0 v1 v2 v3 v4 v5).drew):bodyPost P fn R .ret a (set6 w g v0 v1 v2 v3 v4 v5).drew:=by
 subst T U;exact bodyPost_ret (qoy h a.tmps _ g _ d J (q6n (qky O v0 v1 v2 v3 v4 v5)) D hd I) z V
def qe9(p:Sp)(l:Int):Sp:=if l=2\/l=3 then⟨p.mode,p.tag,p.attr,p.inside,p.run,4⟩else p
structure HoAt(w0 w:World)(p:Sp)(v:Array Value)(q:Sp)(V T:Nat):Prop where
 sp:w.heap[w0.heap.size]?=zK (qan p) 94
 res:w.heap[w0.heap.size+1]?=zK #[zI 0,zS,zS,zS,zS,zI 0] 94
 vw:w.heap[V]?=zK v 111
 tt:w.heap[T]?=zK (qan q) 94
 low:zW w0 w
 le:w0.heap.size<=T
 ne:V≠w0.heap.size/\V≠w0.heap.size+1/\T≠w0.heap.size/\T≠w0.heap.size+1/\V≠T
theorem zeo(M ve va vd vc vp vl:Int)(vn:zU)(vr:Bool){a:Int}(h:Vw.as ⟨M,ve,va,vd,vc,vp,vl,vn,vr⟩=a):Vw.hole ⟨M,ve,va,vd,vc,vp,vl,vn,vr⟩=bif a==0 then(0,10)else bif va==3 then(0,11)else bif (vr || (decide (vc > 0) || (decide (vp > 0) || decide (vd > 0))))then(0,12)else(a,0):=by
 unfold Vw.hole;rw[h];simp only[gt_iff_lt];by_cases y:a=0
 ·rw[if_pos y,yF.2 y];rfl
 rw[if_neg y,yf.2 y];by_cases z:va=3
 ·rw[if_pos z,yF.2 z];rfl
 rw[if_neg z,yf.2 z];cases (vr || (decide (0<vc) || (decide (0<vp) || decide (0<vd))))<;>rfl
theorem q97(p:Sp)(V:Vw)(w:World)(Y:V.mode=p.mode)(Z:∀w,zC 41 #[qaz p] w fun e w'=>e=.returned (qwb V)/\zW w w') :
  zC 55 #[qaz p] w fun e w'=>e=.returned (.tuple #[zI V.hole.1,zI V.hole.2,qaz (qe9 p V.link)])/\zW w w':=by
 obtain⟨vm,ve,va,vd,vc,vp,vl,vn,vr⟩:=V;obtain rfl:vm=p.mode:=Y;obtain⟨A,hA⟩:∃A,Vw.as ⟨p.mode,ve,va,vd,vc,vp,vl,vn,vr⟩=A:=⟨_,rfl⟩;rw[zeo _ _ _ _ _ _ _ _ _ hA];have HA:=zH hA;clear hA;generalize hQ:(fun(e:Ending) (w':World)=>e=.returned (.tuple #[zI (bif A==0 then(0,10)else bif va==3 then(0,11)else bif (vr || (decide (vc > 0) || (decide (vp > 0) || decide (vd > 0))))then(0,12)else(A,0):Int×Int).1,zI (bif A==0 then(0,10)else bif va==3 then(0,11)else bif (vr || (decide (vc > 0) || (decide (vp > 0) || decide (vd > 0))))then(0,12)else(A,0):Int×Int).2,qaz (qe9 p vl)])/\zW w w')=Q;have HQ:=zH hQ;clear hQ;unfold qwb at Z;unfold qaz at Z |-;have HS:=zH Z;clear Z;unfold qan at HS |-;unfold qfa at HS;go_enter func55,ntmps55
 go_upto_region 3 with(go_at_call 41;refine(HS.out _).mono ?_;rintro e w1 ⟨rfl,D⟩;have hx:=(D.block w.heap.size (by simp<;>omega)).trans ((xI _ _ (by simp)).trans (xF w _));have hl:=(ya.1 hx).1;have q0:=fun o=>al (qaa ((xI w1 o hl).trans hx)))
 have H2:Hid (HoAt w ((w1.alloc (.cells #[zI p.mode,zI ve,zI va,zI vd,zI vc,zI vp,zI vl,.string ⟨vn.toArray⟩,.bool vr] 111)).alloc (.cells (qan p) 94)) p #[zI p.mode,zI ve,zI va,zI vd,zI vc,zI vp,zI vl,.string ⟨vn.toArray⟩,.bool vr] p w1.heap.size (w1.heap.size+1)):=by
  have hr:=(D.block (w.heap.size+1) (by simp)).trans (qap (w.alloc _) _ _ (by simp));have U:=(ya.1 hr).1;have hw:zW w w1:=Below.trans (by repeat(first|refine Below.alloc ?_ (by simp<;>omega) _|exact xL _ _)) (D.mono (by simp<;>omega))
  refine⟨(xI _ _ (by simp;omega)).trans ((xI w1 _ hl).trans hx),(xI _ _ (by simp;omega)).trans ((xI w1 _ U).trans hr),(xI _ _ (by simp)).trans (xF _ _),qap _ _ _ (by simp),(hw.alloc (by omega) _).alloc (by simp;omega) _,by omega,by omega,by omega,by omega,by omega,by omega⟩
 unfold qan at H2;clear q0 hx hl D HS;generalize w1.heap.size=VV at H2 |-;obtain⟨T,hT⟩:∃T,T=VV+1:=⟨_,rfl⟩;rw[<-hT]at H2 |-;generalize hv:World.alloc (World.alloc w1 _) _=w2 at H2 |-;clear hT hv;have v2:=al (qaa H2.out.vw);go_cut [18] (fun s wx=>s=.bool (vl==2 || vl==3)/\wx=w2)
 case first=>
  cases h2:vl==2<;>cases h3:vl==3
  all_goals
   go_wp2
   go_meet
   exact⟨by rw[h2,h3];rfl,rfl⟩
 case rest=>
 obtain⟨rfl,rfl⟩:=hcut;generalize J:(vl==2 || vl==3)=lk;have O:=(show Hid (_=lk)from J);clear J;go_upto_if 18 with fail
 go_cut [] (fun wx=>Hid (HoAt w wx p #[zI p.mode,zI ve,zI va,zI vd,zI vc,zI vp,zI vl,.string ⟨vn.toArray⟩,.bool vr] (qe9 p vl) VV T))
 case first=>
  have f5:=xH wc T 5 _ _ H2.out.tt;have t5:=qaa H2.out.tt 5 _ rfl;cases lk
  all_goals
   go_wp2
   go_meet
  ·have h2:=O.out
   have e:qe9 p vl=p:=if_neg (by intro h;simp at h2;omega);rw[e];exact H2
  ·have h2:=O.out
   have e:qe9 p vl=⟨p.mode,p.tag,p.attr,p.inside,p.run,4⟩:=if_pos (by simp at h2;omega);rw[e];have h:=H2.out;exact⟨(xJ _ _ _ _ (by exact fun q=>h.ne.2.2.1 q.symm)).trans h.sp,(xJ _ _ _ _ (fun q=>h.ne.2.2.2.1 q.symm)).trans h.res,(xJ _ _ _ _ h.ne.2.2.2.2).trans h.vw,xG wc T 5 _ _ _ h.tt,h.low.setCell h.le _,h.le,h.ne⟩
 case rest=>
 have H3:=zH hcut.out;clear H2 hcut v2;have m0:=qaa H3.out.sp 0 _ rfl;have v2:=al (qaa H3.out.vw);generalize hM:p.mode=M at m0;go_upto_block 0 with fail
 go_cut [7,22,25,34,37] (fun s7 s22 s25 s34 s37 wx=>s7=zI A/\wx=wc)
 case first=>
  have hA:=HA.out;unfold Vw.as at hA;simp only[hM]at hA;by_cases m1:M=1\/M=19\/M=21\/M=22\/M=29\/M=30
  ·rcases m1 with rfl|rfl|rfl|rfl|rfl|rfl<;>(go_wp2;go_meet;exact⟨by rw[<-hA];rfl,rfl⟩)
  by_cases m8:M=8\/M=9
  ·cases h2:vl==2<;>cases h3:va==2
   all_goals
    have e2:=h2;have e3:=h3;simp at e2 e3;rcases m8 with rfl|rfl<;>(go_wp2;go_meet;exact⟨by rw[<-hA];simp[e2,e3],rfl⟩)
  have e:(M==1)=false/\(M==19)=false/\(M==21)=false/\(M==22)=false/\(M==29)=false/\(M==30)=false/\(M==8)=false/\(M==9)=false:=by simp;omega
  obtain⟨e1,e2,e3,e4,e5,e6,e7,e8⟩:=e;go_wp2;go_meet
  rw[if_neg (by omega),if_neg (by omega),if_neg (by omega),if_neg (by omega)]at hA;exact⟨by rw[<-hA],rfl⟩
 case rest=>
 obtain⟨rfl,rfl⟩:=hcut;have hT:=H3.out.tt;unfold qan at hT;have t0:=qaa hT 0 _ rfl;have t1:=qaa hT 1 _ rfl;have t2:=qaa hT 2 _ rfl;have t3:=qaa hT 3 _ rfl;have t4:=qaa hT 4 _ rfl;have t5:=qaa hT 5 _ rfl;have hR:=H3.out.res;have r0:=al (qaa hR);have f0:=xH _ _ 0 _ _ hR;have f1:=xH _ _ 1 _ _ hR;have f2:=xH _ _ 2 _ _ hR;have f3:=xH _ _ 3 _ _ hR;have f4:=xH _ _ 4 _ _ hR;have f5:=xH _ _ 5 _ _ hR;clear hT hR;have HF:Hid (∀(a:Act) (x y:Int),x=(bif A==0 then(0,10)else bif va==3 then(0,11)else bif (vr || (decide (vc > 0) || (decide (vp > 0) || decide (vd > 0))))then(0,12)else(A,0):Int×Int).1->y=(bif A==0 then(0,10)else bif va==3 then(0,11)else bif (vr || (decide (vc > 0) || (decide (vp > 0) || decide (vd > 0))))then(0,12)else(A,0):Int×Int).2->a.tmps.getD 4 undef=zP (w.heap.size+1)->a.defers=[]->a.tmps.getD 2 undef=zI x->a.tmps.getD 3 undef=zI y->bodyPost prog f55 Q .ret a (set6 wc (w.heap.size+1) (zI (qe9 p vl).mode) (.string ⟨(qe9 p vl).tag.toArray⟩) (.string ⟨(qe9 p vl).attr.toArray⟩) (.string ⟨(qe9 p vl).inside.toArray⟩) (.string ⟨(qe9 p vl).run.toArray⟩) (zI (qe9 p vl).far)).drew):=by
  intro a x y hx hy h4 hd h2 h3;refine qn4 results55 (w.heap.size+1) _ underlying94 rfl (by kernel_rfl) h4 ⟨_,_,H3.out.res,rfl⟩ hd _ _ _ _ _ _ _ _ h2 h3 ?_;rw[<-HQ.out,hx,hy];exact⟨rfl,(qb9 H3.out.low (by omega) _ _ _ _ _ _).drew⟩
 clear HQ HA H3 hM;unfold set6 at HF;generalize qe9 p vl=q at *;cases z:A==0
 rotate_left
 ·go_wp2
  go_region
  all_goals
   go_wp2
   exact HF.out _ _ _ (by rw[z];rfl) (by rw[z];rfl) rfl rfl rfl rfl
 cases I:va==3
 rotate_left
 ·go_wp2
  go_region
  all_goals
   go_wp2
   exact HF.out _ _ _ (by rw[z,I];rfl) (by rw[z,I];rfl) rfl rfl rfl rfl
 rw[z,I]at HF;go_upto_region 27 with fail
 go_cut [49] (fun s wx=>s=.bool (vr || (decide (vc > 0) || (decide (vp > 0) || decide (vd > 0))))/\wx=wc)
 case first=>
  by_cases hr:vr=true
  ·subst hr
   go_wp2
   go_meet
   exact⟨rfl,rfl⟩
  have hr:vr=false:=ye.2 hr;subst hr;by_cases h1:vc > 0<;>by_cases h2:vp > 0<;>by_cases h3:vd > 0
  all_goals
   go_wp2
   go_meet
   exact⟨by simp[h1,h2,h3],rfl⟩
 case rest=>
 obtain⟨rfl,rfl⟩:=hcut;generalize (vr || (decide (vc > 0) || (decide (vp > 0) || decide (vd > 0))))=X at HF |-;cases X
 all_goals
  go_wp2
  go_region
  all_goals
   go_wp2
   exact HF.out _ _ _ rfl rfl rfl rfl rfl rfl
theorem qx0(p:Sp)(w:World)(z:p.tag.length<=1000)(D:p.attr.length<=1000)(I:p.inside.length<=1000)(y:p.run.length<=2000000000000000000) :
  zC 55 #[qaz p] w fun e w'=>e=.returned (.tuple #[zI p.view.hole.1,zI p.view.hole.2,qaz p.behindHole])/\zW w w':=
 q97 p p.view w rfl fun w=>qrw p w z D I y
variable{w w0:World}{p:Sp}{k:Nat}
theorem Pl.spFromSnoc(p:Sp)(l:zU)(b:UInt8):qei p (l++[b])=(qei p l).next b:=by simp[qei]
theorem Pl.spFromOk(l:zU):∀(p:Sp) (n:Nat),SpOk n p->SpOk (n+l.length) (qei p l):=by
 induction l with
 |nil=>intro p n h;exact h
 |cons x l ih=>
   intro p n h;have:=ih _ _ (zfi h x);rw[show n+(x::l).length=n+1+l.length by simp;omega];exact this
def Pl.wrongFrom(p:Sp)(g:Int)(i:Nat):zU->Int
 |[]=>g
 |b::l=>wrongFrom (p.next b) (if g<0/\b=58/\p.view.link=4 then i else g) (i+1) l
theorem Pl.wrongFrom_snoc(l:zU):∀(p:Sp) (g:Int) (i:Nat) (b:UInt8),wrongFrom p g i (l++[b])=if wrongFrom p g i l<0/\b=58/\(qei p l).view.link=4 then((i+l.length:Nat):Int)else wrongFrom p g i l:=by
 induction l with
 |nil=>intro p g i b;rfl
 |cons x l ih=>
   intro p g i b;show wrongFrom (p.next x) _ (i+1) (l++[b])=_;rw[ih,show i+1+l.length=i+(x::l).length by simp;omega];rfl
theorem qov{g:Nat}(h:SpAt w g p)(y:g<w.heap.size)(o:Obj):SpAt (w.alloc o) g p:=h.kept ((xL _ w).alloc (yg _) o) y
structure ThRound(w0 w:World)(p:Sp)(s:zT)(k:Nat):Prop where
 at':SpAt w w0.heap.size (qei p (s.data.toList.take k))
 slot:qfu w w0.heap.size
 res:qfu w (w0.heap.size+1)
 below:zW w0 w
 far:w0.heap.size+1<w.heap.size
theorem ThRound.spot{s:zT}(h:ThRound w0 w p s k){w2:World}(y:zW w w2):ThRound w0 w2 p s k:=
 ⟨h.at'.kept y h.slot.lt,h.slot.kept y h.slot.lt,h.res.kept y h.far,h.below.trans (y.mono (yj (Nat.lt_of_le_of_lt (Nat.le_succ _) h.far))),yi h.far y.size⟩
theorem ThRound.set{s:zT}(h:ThRound w0 w p s k)(Y:Sp)(y:qei p (s.data.toList.take (k+1))=Y) :
  ThRound w0 (set6 w w0.heap.size (zI Y.mode) (.string ⟨Y.tag.toArray⟩) (.string ⟨Y.attr.toArray⟩) (.string ⟨Y.inside.toArray⟩) (.string ⟨Y.run.toArray⟩) (zI Y.far)) p s (k+1):=by
 have z:=qb9 (xL w0.heap.size w) (yg _) (zI Y.mode) (.string ⟨Y.tag.toArray⟩) (.string ⟨Y.attr.toArray⟩) (.string ⟨Y.inside.toArray⟩) (.string ⟨Y.run.toArray⟩) (zI Y.far);have D:=qky h.slot (zI Y.mode) (.string ⟨Y.tag.toArray⟩) (.string ⟨Y.attr.toArray⟩) (.string ⟨Y.inside.toArray⟩) (.string ⟨Y.run.toArray⟩) (zI Y.far);refine⟨by rw[y];exact⟨D 0 _ rfl,D 1 _ rfl,D 2 _ rfl,D 3 _ rfl,D 4 _ rfl,D 5 _ rfl⟩,q4q h.slot _ _ _ _ _ _,?_,h.below.trans z,yi h.far z.size⟩;obtain⟨cs,t,I,J⟩:=h.res;refine⟨cs,t,?_,J⟩;unfold set6;have ne:∀j,w0.heap.size+1≠((zO w0.heap.size j):Addr).block:=fun j=>by show w0.heap.size+1≠w0.heap.size;omega
 rw[xK _ _ _ _ (ne 5),xK _ _ _ _ (ne 4),xK _ _ _ _ (ne 3),xK _ _ _ _ (ne 2),xK _ _ _ _ (ne 1),xK _ _ _ _ (ne 0)];exact I
theorem ThRound.drew{s:zT}(h:ThRound w0 w p s k):ThRound w0 w.drew p s k:=⟨⟨h.at'.mode,h.at'.tag,h.at'.attr,h.at'.inside,h.at'.run,h.at'.far⟩,h.slot.drew,h.res.drew,h.below.drew,h.far⟩
theorem qjd{P:Program}{fn:Func}{u p:Tmp}{ty:TypeId}(h:fn.results=#[.cell p ty,.tmp u])(tmps:Array Value)(w:World)(g:Nat)(cs:Array Value)(d:TypeDesc)(y:tmps.getD p undef=zP g)
  (z:∀j v,cs.toList[j]?=some v->w.cell? (zO g j)=some v)
  (D:P.underlying ty=some d) (hd:aggD d=true) (I:(P.info? ty).map (·.size)=some cs.size) :
  (results fn tmps).run P w=.ok (.tuple #[.agg cs,tmps.getD u undef]) w:=by
 have J:=qbb (P:=P) w g ty cs d z D (by cases d<;>first|rfl|cases hd) I
 rw[yY]at y;simp only[results,h];simp[y,asAddr,J]
theorem qbz{P:Program}{fn:Func}{R:Ending->World->Prop}{a:Act}{w:World}{u p:Tmp}{ty:TypeId}(h:fn.results=#[.cell p ty,.tmp u])(g:Nat)(d:TypeDesc)(D:P.underlying ty=some d)(hd:aggD d=true)(I:(P.info? ty).map (·.size)=some 6)
  (J:a.tmps.getD p undef=zP g) (O:qfu w g) (z:a.defers=[]) (v0 v1 v2 v3 v4 v5:Value) (y:Value) (T:a.tmps.getD u undef=y) (U:R (.returned (.tuple #[.agg #[v0,v1,v2,v3,v4,v5],y])) (set6 w g v0 v1 v2 v3 v4 v5)):bodyPost P fn R .ret a (set6 w g v0 v1 v2 v3 v4 v5):=by
 subst T;exact bodyPost_ret (qjd h a.tmps _ g _ d J (qky O v0 v1 v2 v3 v4 v5) D hd I) z U
theorem qwp(He:∀(p:Sp) (m:Nat) (b:UInt8) (w:World),p.mode=m->m<=33->p.tag.length<=1000->p.attr.length<=1000->p.inside.length<=1000->p.run.length<=2000000000000000000->zC 88 #[qaz p,zJ b.toNat] w (zR (qaz (p.next b)) w))(p:Sp)(n:Nat)(s:zT)(w:World)(hi:SpOk n p)(hn:n+s.size<=2000000000000000000) :
  zC 54 #[qaz p,.string s] w (zR (.tuple #[qaz (qei p s.data.toList),zI (wrongFrom p (-1) 0 s.data.toList)]) w):=by
 have hf:Hid (ThRound w ((w.alloc (.cells (qan p) 94)).alloc (.cells #[zI 0,zS,zS,zS,zS,zI 0] 94)) p s 0):=by
  have a1:=qsn w p 94;have a2:=qp9 w _ (qan p) 94 rfl rfl;exact⟨qov a1 (by simp) _,a2.alloc _,qp9 _ _ _ _ (by simp) rfl,(zB _).alloc (by simp) _,by simp⟩
 have X:Hid (∀wr,ThRound w wr p s s.size->SpAt wr w.heap.size (qei p s.data.toList)/\qfu wr (w.heap.size+1)/\zW w wr):=by
  intro wr h;refine⟨?_,h.res,h.below⟩;have:=h.at';rw[qeo s s.size (yg _)]at this;exact this
 unfold qaz;unfold qan at hf |-;go_enter func54,ntmps54
 go_wp2_with fail
 go_loopw [6,7] (fun g i wr=>∃k:Nat,k<=s.size/\g=zI (wrongFrom p (-1) 0 (s.data.toList.take k))/\i=zI k/\Hid (ThRound w wr p s k)) (fun _ i _=>s.size - (intOf i).toNat)
 case atStart=>exact⟨0,yH _,rfl,rfl,hf⟩
 case round=>
  obtain⟨k,hk,rfl,rfl,HR⟩:=hrel;clear hf;by_cases Hi:k<s.size
  ·clear X
   have z:=spFromOk (s.data.toList.take k) _ n hi;have Z:(s.data.toList.take k).length=k:=q2m s k hk;rw[Z]at z;obtain⟨m,hm,hj⟩:=z.mode;have hS:=fun w=>qrw (qei p (s.data.toList.take k)) w (yh z.tag (by omega)) (yh z.attr (by omega)) (yh z.inside (by omega)) (yh z.run (by omega));have hN:=fun w=>He (qei p (s.data.toList.take k)) m s[k] w hm hj (yh z.tag (by omega)) (yh z.attr (by omega)) (yh z.inside (by omega)) (yh z.run (by omega));have D:=HR.out.at';have Hf:qei p (s.data.toList.take (k+1))=(qei p (s.data.toList.take k)).next s[k]:=by rw[qdn s k Hi,spFromSnoc]
   have U:wrongFrom p (-1) 0 (s.data.toList.take (k+1))=if wrongFrom p (-1) 0 (s.data.toList.take k)<0/\s[k]=58/\(qei p (s.data.toList.take k)).view.link=4 then(k:Int)else wrongFrom p (-1) 0 (s.data.toList.take k):=by
    rw[qdn s k Hi,wrongFrom_snoc,Z,xf]
   have Ha:=fun(w2:World) (hb:ThRound w w2 p s k)=>hb.set _ Hf;generalize (qei p (s.data.toList.take k)).next s[k]=Y at hN Hf Ha
   generalize (qei p (s.data.toList.take k)).view=V at hS U;generalize qei p (s.data.toList.take k)=S at hN hS D z hm;generalize wrongFrom p (-1) 0 (s.data.toList.take k)=g0 at U |-;unfold qaz qan at hS hN;have HN:=zH hN;have HS:=zH hS;clear hN hS z hm hj Z Hf He;have Hb:=HR.out;by_cases hc:g0<0/\s[k]=58
   ·have c1:=hc.1
    have c2:((s[k].toNat:Int)==58)=true:=by rw[hc.2];rfl
    obtain⟨vm,ve,va,vd,vc,vp,vl,vn,vr⟩:=V;unfold qwb qfa at HS;simp only at HS U;have he:Hid (wrongFrom p (-1) 0 (s.data.toList.take (k+1))=if vl=4 then(k:Int)else g0):=by
     show _=_;rw[U];by_cases h4:vl=4
     ·rw[if_pos ⟨hc.1,hc.2,h4⟩,if_pos h4]
     ·rw[if_neg (fun q=>h4 q.2.2),if_neg h4]
    clear U hc;have q0:=D.mode;have q1:=D.tag;have q2:=D.attr;have q3:=D.inside;have q4:=D.run;have q5:=D.far;go_wp2_with fail
    refine(HS.out _).mono ?_;rintro e w1 ⟨rfl,hg⟩;have Hj:=Hb.spot hg;have Hc:=fun o=>Hj.spot ((xL _ w1).alloc (yg _) o);have Hg:=Hj.slot.lt;clear q0 q1 q2 q3 q4 q5;have I:=fun o=>qov (D.kept hg Hb.slot.lt) Hg o;have q0:=fun o=>(I o).mode;have q1:=fun o=>(I o).tag;have q2:=fun o=>(I o).attr;have q3:=fun o=>(I o).inside;have q4:=fun o=>(I o).run;have q5:=fun o=>(I o).far;clear D I hg HS Hb;by_cases h4:vl=4
    ·have c4:(vl==4)=true:=yF.2 h4
     have ha:Hid (wrongFrom p (-1) 0 (s.data.toList.take (k+1))=(k:Int)):=by show _=_;rw[he.out,if_pos h4]
     clear he h4;go_wp2_with fail
     first | go_region_with (first
             | (go_at_call 88;refine(HN.out _).mono ?_;rintro e w2 ⟨rfl,O⟩
                have y:=((Hc _).drew).spot O;have J:=zH (Ha w2 y);unfold set6 at J;obtain⟨v0,p0⟩:=y.slot.cell 0 (by omega);obtain⟨v1,p1⟩:=y.slot.cell 1 (by omega);obtain⟨v2,p2⟩:=y.slot.cell 2 (by omega);obtain⟨v3,p3⟩:=y.slot.cell 3 (by omega);obtain⟨v4,p4⟩:=y.slot.cell 4 (by omega);obtain⟨v5,p5⟩:=y.slot.cell 5 (by omega);have f0:=y.slot.thaw;clear y O)) | fail
     all_goals
      clear q0 q1 q2 q3 q4 q5 p0 p1 p2 p3 p4 p5 f0;generalize (((((w2.setCell _ _).setCell _ _).setCell _ _).setCell _ _).setCell _ _).setCell _ _=W at J |-;go_wp2
      go_roundw
      case rel=>exact⟨k+1,by omega,by rw[ha.out],by go_num,J⟩
      case measure=>simp[intOf];omega
    ·have c4:(vl==4)=false:=yf.2 h4
     have ha:Hid (wrongFrom p (-1) 0 (s.data.toList.take (k+1))=g0):=by show _=_;rw[he.out,if_neg h4]
     clear he h4;go_wp2_with fail
     first | go_region_with (first
             | (go_at_call 88;refine(HN.out _).mono ?_;rintro e w2 ⟨rfl,O⟩
                have y:=((Hc _).drew).spot O;have J:=zH (Ha w2 y);unfold set6 at J;obtain⟨v0,p0⟩:=y.slot.cell 0 (by omega);obtain⟨v1,p1⟩:=y.slot.cell 1 (by omega);obtain⟨v2,p2⟩:=y.slot.cell 2 (by omega);obtain⟨v3,p3⟩:=y.slot.cell 3 (by omega);obtain⟨v4,p4⟩:=y.slot.cell 4 (by omega);obtain⟨v5,p5⟩:=y.slot.cell 5 (by omega);have f0:=y.slot.thaw;clear y O)) | fail
     all_goals
      clear q0 q1 q2 q3 q4 q5 p0 p1 p2 p3 p4 p5 f0;generalize (((((w2.setCell _ _).setCell _ _).setCell _ _).setCell _ _).setCell _ _).setCell _ _=W at J |-;go_wp2
      go_roundw
      case rel=>exact⟨k+1,by omega,by rw[ha.out],by go_num,J⟩
      case measure=>simp[intOf];omega
   ·rw[if_neg (fun q=>hc ⟨q.1,q.2.1⟩)]at U
    have ha:=zH U;clear U HS;have q0:=D.mode;have q1:=D.tag;have q2:=D.attr;have q3:=D.inside;have q4:=D.run;have q5:=D.far;clear D;by_cases c1:g0<0
    ·have c2:((s[k].toNat:Int)==58)=false:=(qil s[k] 58 (by omega)).trans (yf.2 fun q=>hc ⟨c1,q⟩)
     clear hc;go_wp2_with fail
     first | go_region_with (first
             | (go_at_call 88;refine(HN.out _).mono ?_;rintro e w2 ⟨rfl,O⟩
                have y:=(Hb.drew).spot O;have J:=zH (Ha w2 y);unfold set6 at J;obtain⟨v0,p0⟩:=y.slot.cell 0 (by omega);obtain⟨v1,p1⟩:=y.slot.cell 1 (by omega);obtain⟨v2,p2⟩:=y.slot.cell 2 (by omega);obtain⟨v3,p3⟩:=y.slot.cell 3 (by omega);obtain⟨v4,p4⟩:=y.slot.cell 4 (by omega);obtain⟨v5,p5⟩:=y.slot.cell 5 (by omega);have f0:=y.slot.thaw;clear y O)) | fail
     all_goals
      clear q0 q1 q2 q3 q4 q5 p0 p1 p2 p3 p4 p5 f0;generalize (((((w2.setCell _ _).setCell _ _).setCell _ _).setCell _ _).setCell _ _).setCell _ _=W at J |-;go_wp2
      go_roundw
      case rel=>exact⟨k+1,by omega,by rw[ha.out],by go_num,J⟩
      case measure=>simp[intOf];omega
    ·have c1:0<=g0:=by omega
     clear hc;go_wp2_with fail
     first | go_region_with (first
             | (go_at_call 88;refine(HN.out _).mono ?_;rintro e w2 ⟨rfl,O⟩
                have y:=(Hb.drew).spot O;have J:=zH (Ha w2 y);unfold set6 at J;obtain⟨v0,p0⟩:=y.slot.cell 0 (by omega);obtain⟨v1,p1⟩:=y.slot.cell 1 (by omega);obtain⟨v2,p2⟩:=y.slot.cell 2 (by omega);obtain⟨v3,p3⟩:=y.slot.cell 3 (by omega);obtain⟨v4,p4⟩:=y.slot.cell 4 (by omega);obtain⟨v5,p5⟩:=y.slot.cell 5 (by omega);have f0:=y.slot.thaw;clear y O)) | fail
     all_goals
      clear q0 q1 q2 q3 q4 q5 p0 p1 p2 p3 p4 p5 f0;generalize (((((w2.setCell _ _).setCell _ _).setCell _ _).setCell _ _).setCell _ _).setCell _ _=W at J |-;go_wp2
      go_roundw
      case rel=>exact⟨k+1,by omega,by rw[ha.out],by go_num,J⟩
      case measure=>simp[intOf];omega
  ·have hl:k=s.size:=by omega
   subst hl;obtain⟨D,T,Hk⟩:=X.out _ HR.out;have HG:Hid (wrongFrom p (-1) 0 (s.data.toList.take s.size)=wrongFrom p (-1) 0 s.data.toList):=by show _=_;rw[qeo s s.size (yg _)]
   have HB:=zH Hk;have Hl:=zH T;clear HR X Hk He hi;generalize wrongFrom p (-1) 0 (s.data.toList.take s.size)=g0 at HG |-;have q0:=D.mode;have q1:=D.tag;have q2:=D.attr;have q3:=D.inside;have q4:=D.run;have q5:=D.far;obtain⟨v0,p0⟩:=T.cell 0 (by omega);obtain⟨v1,p1⟩:=T.cell 1 (by omega);obtain⟨v2,p2⟩:=T.cell 2 (by omega);obtain⟨v3,p3⟩:=T.cell 3 (by omega);obtain⟨v4,p4⟩:=T.cell 4 (by omega);obtain⟨v5,p5⟩:=T.cell 5 (by omega);have f0:=T.thaw;clear D T;go_wp2
   refine qbz results54 (w.heap.size+1) _ underlying94 rfl (by kernel_rfl) rfl Hl.out rfl _ _ _ _ _ _ _ rfl ?_;refine⟨?_,qb9 HB.out (by simp) _ _ _ _ _ _⟩;rw[<-HG.out];rfl
end Go.Proofs.YtfkhljmiehdgmaaGreatDoor
