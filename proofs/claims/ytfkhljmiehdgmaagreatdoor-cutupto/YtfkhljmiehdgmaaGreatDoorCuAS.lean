/-
  Steps of the proof.
-/
import Derived.Test.YtfkhljmiehdgmaaGreatDoorCuAJ
import Derived.Test.YtfkhljmiehdgmaaGreatDoorCuAN
import Derived.Test.YtfkhljmiehdgmaaGreatDoorCuAP
import Derived.Test.YtfkhljmiehdgmaaGreatDoorCuAI
import Derived.Test.YtfkhljmiehdgmaaGreatDoorCuAQ
import Derived.Test.YtfkhljmiehdgmaaGreatDoorCuAO
import Derived.RangeFuncOwn
import Derived.RangeFuncNested
import Derived.RangeFuncBound
import Derived.RangeFuncLeaves
import Derived.Shelf.Abstract
import Derived.Shelf.RegionOpen
import Derived.OwnWalkIn
import Derived.TacticsInMore
import Derived.LoopNIn
import Derived.LoopIn
import Derived.Deep.RegionHeld3
import Derived.Test.YtfkhljmiehdgmaaGreatDoorCuAM
set_option maxRecDepth 100000
set_option maxHeartbeats 40000000
namespace Go.Proofs.YtfkhljmiehdgmaaGreatDoor
open Go.RowKit Go.Proofs.Tryz Pl
variable{w:World}{B g:Nat}{F:Fix}{S:List Src}{vv:Value}{s:Sr}
theorem SeAt.obj(h:SeAt w B F S vv s):∃es clock,w.heap[F.be]?=some (.map es clock)/\es.size=s.ends.length:=by
 obtain⟨es,c,h1,h2⟩:=h.ends;refine⟨es,c,h1,?_⟩;have:=yE List.length h2;simpa [qo2]using this
theorem zfp{b:Nat}{es:Array MapEntry}{clock:Nat}(h:w.heap[b]?=some (.map es clock)):(Builtin.len_ #[175] 3 #[.map (some b)]).run prog w=.ok (zI (es.size:Nat)) w:=by
 unfold Builtin.len_;simp[go_sem,run_underlying underlying175,Go.MapKept.run_getObj_map h,Result.andThen]
theorem SeAt.len(h:SeAt w B F S vv s):(Builtin.len_ #[175] 3 #[.map (some F.be)]).run prog w=.ok (zI (s.ends.length:Nat)) w:=by
 obtain⟨es,c,h1,h2⟩:=h.obj;rw[<-h2];exact zfp h1
def qox(w:World)(g:Nat)(a b c d:Value):World:=(((w.setCell (zO g 5) a).setCell (zO g 6) b).setCell (zO g 7) c).setCell (zO g 8) d
theorem q7z{k:Nat}(h:k≠g)(a b c d:Value):(qox w g a b c d).heap[k]?=w.heap[k]?:=by
 have e:∀(w:World) (j:Nat) (v:Value),(w.setCell (zO g j) v).heap[k]?=w.heap[k]?:=fun w j v=>xL _ _ _ _ h;unfold qox;rw[e,e,e,e]
theorem q0h{a:World}(h:Below B a w)(hg:B<=g)(x y z u:Value):Below B a (qox w g x y z u):=
 (((h.setCell (p:=zO g 5) hg x).setCell (p:=zO g 6) hg y).setCell (p:=zO g 7) hg z).setCell (p:=zO g 8) hg u
theorem SeAt.fault(h:SeAt w B F S vv s)(f:Ft):SeAt (qox w F.g (zI f.code) (zI f.kind) (zV f.place) (zI f.pos)) B F S vv { s with fault:=f }/\Cue B F w (qox w F.g (zI f.code) (zI f.kind) (zV f.place) (zI f.pos)):=by
 have ha:=fun k (hk:k≠F.g)=>q7z (w:=w) hk (zI f.code) (zI f.kind) (zV f.place) (zI f.pos)
 have Ha:(qox w F.g (zI f.code) (zI f.kind) (zV f.place) (zI f.pos)).heap[F.g]?=zK (qlm F S.length vv f) 178:=
  qhu (t:=178) [zI f.code,zI f.kind,zV f.place,zI f.pos] w 5 [zF F.bS S.length S.length,.map (some F.bp),.map (some F.be),.map (some F.bn),vv] [zI s.fault.code,zI s.fault.kind,bs s.fault.place,zI s.fault.pos] (by have:=h.blk;unfold qlm at this;simpa using this) rfl rfl
 have hb:=q0h (xM B w) h.le.1 (zI f.code) (zI f.kind) (zV f.place) (zI f.pos);generalize qox w F.g _ _ _ _=w' at ha Ha hb |-;refine⟨⟨Ha,h.srcKept fun k _ h1 _=>ha k h1,h.places.heap (ha _ (qak h.blk h.places).symm),h.ends.heap (ha _ h.apart.1.symm),h.le,h.apart⟩,hb,fun k _ h1 _=>ha k h1⟩
theorem ql7(S:List Src)(w:World)(B:Nat)(F:Fix)(vv:Value)(s:Sr)(e:En)(kind:Int)(pos:Nat)(h:SeAt w B F S vv s)(hi:e.1<S.length)(hB:B<=w.heap.size) :
  zC 107 #[zP F.g,qge e,zI kind,zI pos] w fun ed w'=>(∃r,ed=.returned r)/\SeAt w' B F S vv (s.wrong S e.1 kind pos)/\Cue B F w w':=by
 obtain⟨src,ha⟩:∃src,S[e.1]?=some src:=⟨S[e.1],yc hi⟩;have hP:qom S e.1=src.name:=by unfold qom;rw[ha]
 have b0:∀o,(w.alloc o).cell? (zO F.g 0)=some (zF F.bS S.length S.length):=fun o=>(h.alloc o).cell 0 _ rfl;have b1:∀o,(w.alloc o).cell? (zO F.bS (e.1*2))=some (zV src.name):=fun o=>(h.alloc o).src.name e.1 src ha;have c1:(e.1:Int)<(S.length:Int):=by omega
 have HF:Hid (∀o,SeAt (qox (w.alloc o) F.g (zI 3) (zI kind) (zV src.name) (zI pos)).drew B F S vv (s.wrong S e.1 kind pos)/\Cue B F w (qox (w.alloc o) F.g (zI 3) (zI kind) (zV src.name) (zI pos)).drew):=fun o=>by
  have hf:=SeAt.fault (h.alloc o) ⟨3,kind,qom S e.1,pos⟩;rw[hP]at hf;have h1:Cue B F w (w.alloc o):=Cue.of_below ((xM w.heap.size w).alloc (yg _) o) hB;have h2:=h1.trans hf.2;refine⟨?_,h2.trans (Cue.of_below (xM _ _).drew (yh hB h2.below.size))⟩;have:=hf.1.drew;unfold Sr.wrong;rw[hP];exact this
 have y5:∀o,(w.alloc o).cell? (zO F.g 5)=some _:=fun o=>(h.alloc o).cell 5 _ rfl;have y6:∀o,(w.alloc o).cell? (zO F.g 6)=some _:=fun o=>(h.alloc o).cell 6 _ rfl;have y7:∀o,(w.alloc o).cell? (zO F.g 7)=some _:=fun o=>(h.alloc o).cell 7 _ rfl;have y8:∀o,(w.alloc o).cell? (zO F.g 8)=some _:=fun o=>(h.alloc o).cell 8 _ rfl;have z5:∀o,(w.alloc o).frozen? (zO F.g 5)=false:=fun o=>(h.alloc o).thaw 5;have z6:∀o,(w.alloc o).frozen? (zO F.g 6)=false:=fun o=>(h.alloc o).thaw 6;have z7:∀o,(w.alloc o).frozen? (zO F.g 7)=false:=fun o=>(h.alloc o).thaw 7;have z8:∀o,(w.alloc o).frozen? (zO F.g 8)=false:=fun o=>(h.alloc o).thaw 8;rw[qbj];unfold qao bs;clear h hP ha;go_enter func107,ntmps107
 go_wp2
 go_region
 all_goals
  go_wp2
  go_end0
  unfold qox at HF;exact⟨⟨_,rfl⟩,HF.out _⟩
section
open Go.Maps
variable{B:Nat}{F:Fix}{w w':World}{S:List Src}{vv:Value}{s:Sr}{M:List Nat}
def qnn(l:List (En×Nat)):List (Value×Value):=l.map fun p=>(qge p.1,zI (p.2:Nat))
def qe2(l:List Int):List Value:=l.map fun z=>zI z
def qip(F:Fix)(i g n:Nat):List Value:=[F.pv i,zF g n n]
def qdw(F:Fix):List Nat->List (Nat×List Int)->List Value
 |g::M,v::l=>qip F v.1 g v.2.length++qdw F M l
 |_,_=>[]
theorem qn7(F:Fix)(g:Nat)(v:Nat×List Int):∀(M:List Nat) (l:List (Nat×List Int)),M.length=l.length->qdw F (M++[g]) (l++[v])=qdw F M l++qip F v.1 g v.2.length
 |[],[],_=>by simp[qdw]
 |h::M,u::l,e=>by
   show qip F u.1 h u.2.length++qdw F (M++[g]) (l++[v])=_;rw[qn7 F g v M l (by simpa using e)];simp[qdw]
 |[],v::l,h=>by simp at h
 |g::M,[],h=>by simp at h
theorem qn8(F:Fix)(f:List Int->List Int)(hf:∀l,(f l).length=l.length):∀(M:List Nat) (l:List (Nat×List Int)) (k:Nat),qdw F M (l.modify k fun x=>(x.1,f x.2))=qdw F M l
 |[],l,k=>by simp[qdw]
 |g::M,[],k=>by simp[qdw]
 |g::M,v::l,0=>by simp[qdw,hf]
 |g::M,v::l,k+1=>by
   show qdw F (g::M) (v::l.modify k _)=_;show qip F v.1 g v.2.length++qdw F M (l.modify k _)=_;rw[qn8 F f hf M l k];rfl
structure SvAt(w:World)(B:Nat)(F:Fix)(S:List Src)(vv:Value)(M:List Nat)(s:Sr):Prop where
 se:SeAt w B F S vv s
 nums:qfj w F.bn (qnn s.nums)
 row:w.ownsRow B 205 2 vv s.vis.length (qdw F M s.vis)
 len:M.length=s.vis.length
 marks:∀(i g:Nat) (v:Nat×List Int),M[i]?=some g->s.vis[i]?=some v->w.heap[g]?=zK ((qe2 v.2).toArray) 3/\B<=g
 one:M.Nodup
 apart:F.bn≠F.be/\F.bn≠F.bp/\B<=F.bn
structure Cuv(B:Nat)(F:Fix)(w w':World):Prop where
 below:Below B w w'
 keep:∀k cs t fz,w.heap[k]?=some (.cells cs t fz)->k≠F.g->t≠205->t≠3->w'.heap[k]?=w.heap[k]?
theorem Cuv.refl(B:Nat)(F:Fix)(w:World):Cuv B F w w:=⟨xM _ _,fun _ _ _ _ _ _ _ _=>rfl⟩
theorem Cuv.trans{a b c:World}(h:Cuv B F a b)(k:Cuv B F b c):Cuv B F a c:=
 ⟨h.below.trans k.below,fun i cs t fz hi h1 h2 h3=>(k.keep i cs t fz ((h.keep i cs t fz hi h1 h2 h3).trans hi) h1 h2 h3).trans (h.keep i cs t fz hi h1 h2 h3)⟩
theorem Cuv.of_below(h:zW w w')(hB:B<=w.heap.size):Cuv B F w w':=
 ⟨h.mono hB,fun k _ _ _ hk _ _ _=>h.block k (ya.1 hk).1⟩
theorem Cuv.of_cue(h:SeAt w B F S vv s)(hc:Cue B F w w'):Cuv B F w w':=
 ⟨hc.below,fun k _ _ _ hk h1 _ _=>hc.keep k (ya.1 hk).1 h1 (qak hk h.ends)⟩
theorem qef:(205:TypeId)≠178:=by decide
theorem qpt:(205:TypeId)≠173:=by decide
theorem qt9:(205:TypeId)≠229:=by decide
theorem qjg:(205:TypeId)≠3:=by decide
theorem qgp:(3:TypeId)≠178:=by decide
theorem quc:(3:TypeId)≠173:=by decide
theorem qzy:(3:TypeId)≠229:=by decide
theorem SvAt.kept(h:SvAt w B F S vv M s)(hs:SeAt w' B F S vv s)(hk:∀k,k<w.heap.size->(∀cs t fz,w.heap[k]?=some (.cells cs t fz)->t=205\/t=3)->k≠F.be->w'.heap[k]?=w.heap[k]?):SvAt w' B F S vv M s:=by
 refine⟨hs,?_,?_,h.len,?_,h.one,h.apart⟩
 ·obtain⟨es,c,hb,hl⟩:=h.nums
  exact⟨es,c,(hk _ h.nums.lt (fun cs t fz e=>by rw[hb]at e;cases e) h.apart.1).trans hb,hl⟩
 ·refine qab h.row fun k hv=>?_
  obtain⟨cur,hc⟩:=qac h.row k hv;exact hk k (ya.1 hc).1 (fun cs t fz e=>by rw[hc]at e;injection e with e;injection e with _ e _;exact .inl e.symm) (qak hc h.se.ends)
 ·intro i g v hi hv
  obtain⟨h1,h2⟩:=h.marks i g v hi hv;exact⟨(hk g (ya.1 h1).1 (fun cs t fz e=>by rw[h1]at e;injection e with e;injection e with _ e _;exact .inr e.symm) (qak h1 h.se.ends)).trans h1,h2⟩
theorem SvAt.below(h:SvAt w B F S vv M s)(hb:zW w w'):SvAt w' B F S vv M s:=h.kept (h.se.below hb) fun k hk _ _=>hb.block k hk
theorem SvAt.alloc(h:SvAt w B F S vv M s)(o:Obj):SvAt (w.alloc o) B F S vv M s:=h.below (zB o)
theorem SvAt.drew(h:SvAt w B F S vv M s):SvAt w.drew B F S vv M s:=h.below (xM _ _).drew
theorem SvAt.turn{s':Sr}(h:SvAt w B F S vv M s)(hs:SeAt w' B F S vv s')(hc:Cue B F w w')(hn:s'.nums=s.nums)(hv:s'.vis=s.vis):SvAt w' B F S vv M s':=by
 have hk:∀k,k<w.heap.size->(∀cs t fz,w.heap[k]?=some (.cells cs t fz)->t=205\/t=3)->k≠F.be->w'.heap[k]?=w.heap[k]?:=fun k hk ht ha=>hc.keep k hk (fun e=>by
  subst e;rcases ht _ _ _ h.se.blk with q|q
  ·exact qef q.symm
  ·exact qgp q.symm) ha
 refine⟨hs,?_,?_,by rw[hv];exact h.len,?_,h.one,h.apart⟩
 ·obtain⟨es,c,hb,hl⟩:=h.nums
  rw[hn];exact⟨es,c,(hk _ h.nums.lt (fun cs t fz e=>by rw[hb]at e;cases e) h.apart.1).trans hb,hl⟩
 ·rw[hv]
  refine qab h.row fun k hv=>?_;obtain⟨cur,hc⟩:=qac h.row k hv;exact hk k (ya.1 hc).1 (fun cs t fz e=>by rw[hc]at e;injection e with e;injection e with _ e _;exact .inl e.symm) (qak hc h.se.ends)
 ·rw[hv]
  intro i g v hi hv;obtain⟨h1,h2⟩:=h.marks i g v hi hv;exact⟨(hk g (ya.1 h1).1 (fun cs t fz e=>by rw[h1]at e;injection e with e;injection e with _ e _;exact .inr e.symm) (qak h1 h.se.ends)).trans h1,h2⟩
theorem SvAt.far(h:SvAt w B F S vv M s){G:Nat}{x:Sx}(hG:StIn w G x)(hk:∀k,k≠G->w'.heap[k]?=w.heap[k]?):SvAt w' B F S vv M s:=
 h.kept (h.se.far hG hk) fun k _ ht _=>hk k (fun e=>by
  subst e;rcases ht _ _ _ hG with q|q
  ·exact absurd q (by decide)
  ·exact absurd q (by decide))
theorem SvAt.mark(h:SvAt w B F S vv M s){v g:Nat}(hg:M[v]?=some g)(a:Nat)(m:Int):SvAt (w.setCell (zO g a) (zI m)) B F S vv M (s.mark v a m)/\Cuv B F w (w.setCell (zO g a) (zI m)):=by
 have ha:∀k,k≠g->(w.setCell (zO g a) (zI m)).heap[k]?=w.heap[k]?:=fun k hk=>xL _ _ _ _ hk;have Hf:v<s.vis.length:=by rw[<-h.len];exact(yb.1 hg).1
 obtain⟨u,hu⟩:∃u,s.vis[v]?=some u:=⟨_,yc Hf⟩;obtain⟨hb,hB⟩:=h.marks v g u hg hu;have Hb:=xH w g a _ _ (zI m) hb;have he:F.bn≠g:=fun e=>by
  obtain⟨es,c,hf,_⟩:=h.nums;rw[e,hb]at hf;cases hf
 have Hg:SeAt (w.setCell (zO g a) (zI m)) B F S vv (s.mark v a m):=by
  obtain⟨cs',fz',hc⟩:=h.se.src.blk;refine⟨(ha _ (qae h.se.blk hb qgp.symm)).trans h.se.blk,h.se.src.kept (ha _ (qae hc hb quc.symm)) (fun i s' q hs hv=>?_),h.se.places.heap (ha _ (qak hb h.se.places).symm),h.se.ends.heap (ha _ (qak hb h.se.ends).symm),h.se.le,h.se.apart⟩;obtain⟨cur,Hi⟩:=qac (h.se.src.row i s' hs) q hv;exact ha q (qae Hi hb qzy.symm)
 have Hc:(s.mark v a m).vis.length=s.vis.length:=by unfold Sr.mark;simp
 refine⟨⟨Hg,h.nums.heap (ha _ he),?_,by rw[Hc];exact h.len,?_,h.one,h.apart⟩,⟨(xM _ _).setCell (p:=zO g a) hB _,fun k cs t fz hk _ _ h3=>ha k (fun e=>by subst e;rw[hb]at hk;injection hk with hk;injection hk with _ hk _;exact h3 hk.symm)⟩⟩
 ·rw[Hc]
  have e:qdw F M (s.mark v a m).vis=qdw F M s.vis:=qn8 F (fun l=>l.set a m) (by simp) M s.vis v;rw[e];refine qab h.row fun k hk=>ha k ?_;obtain⟨cur,hc⟩:=qac h.row k hk;exact qae hc hb qjg
 ·intro i g' v' hi Ha
  have Ha:(s.vis.modify v fun x=>(x.1,x.2.set a m))[i]?=some v':=Ha;rw[List.getElem?_modify]at Ha;by_cases He:v=i
  ·subst He
   rw[hg]at hi;obtain rfl:=yk hi;rw[hu]at Ha;simp only[if_true,Option.map_eq_map,Option.map_some,Option.some.injEq]at Ha;subst Ha;refine⟨?_,hB⟩;rw[Hb];simp[qe2,List.map_set]
  ·obtain⟨v0,e1,e2⟩:∃v0,s.vis[i]?=some v0/\v0=v':=by
    cases hq:s.vis[i]? with
    |none=>rw[hq]at Ha;cases Ha
    |some v0=>rw[hq]at Ha;simp[He]at Ha;exact⟨v0,rfl,Ha⟩
   subst e2;obtain⟨h1,h2⟩:=h.marks i g' v0 hi e1;refine⟨(ha g' (fun e=>?_)).trans h1,h2⟩;subst e;have hj:=(yb.1 hi).1;exact He ((List.getElem?_inj (yb.1 hg).1 h.one).1 (hg.trans hi.symm))
end
variable{w:World}{B n k:Nat}{xs:List Value}
theorem qfq{e:TypeId}{v:Value}(h:w.ownsRow B e k v n xs):∃ao cap,v=.slice ao n cap:=by
 rcases h.2 with⟨rfl,rfl⟩|⟨g,cap,cur,hv,_⟩
 ·exact⟨none,0,rfl⟩
 ·exact⟨_,_,hv⟩
theorem qcs{g cap:Nat}{e:TypeId}(h:w.ownsRow B e k (zF g n cap) n xs)(j:Nat)(u:Value)(hu:xs[j]?=some u):w.cell? (zO g j)=some u:=by
 have:=World.ownsRow.cells h (g:=g) rfl j u hu;have e:((zO g 0):Addr).add j=(zO g j):=by simp only[Addr.add,xg];split<;>simp_all
 rw[e]at this;exact this
theorem qlu(L:List Nat)(k m:Nat)(h:L[k]?=some m):(qb0 L)[k]?=some (zI m):=by simp[qb0,h]
theorem qo4(k:Nat)(h:k<=1000000000):IntKind.i64.wrap (k:Int)=k:=by
 rw[IntKind.wrap_i64];omega
def qg8(k p:Nat):Value:=.agg #[zI k,zI p]
theorem qxl(w:World)(B g:Nat)(t:zU)(c:Ct)(vp vo:Value)(h:CtAt w B g t c vp vo)(hO:∀m∈c.opened,m<c.parts.length)(hn:c.parts.length<=4000)(h6:c.opened.length<=6) :
  zC 148 #[zP g] w (zR (qg8 c.left.1 c.left.2) w):=by
 have b3:∀o,(w.alloc o).cell? (zO g 3)=some vp:=fun o=>(h.alloc o).cell 3 _ rfl;have b4:∀o,(w.alloc o).cell? (zO g 4)=some vo:=fun o=>(h.alloc o).cell 4 _ rfl;by_cases h0:c.opened.length=0
 ·have HV:Hid (c.left=(0,0)):=by show _=_;unfold Ct.left;rw[List.length_eq_zero_iff.1 h0];rfl
  obtain⟨ao,cap,rfl⟩:=qfq h.opened;rw[HV.out];rw[h0]at b4;clear HV h hO hn h6 h0;unfold qg8;go_enter func148,ntmps148
  go_wp2
  refine bodyPost_ret (qbn results148 _ _ w.heap.size _ _ rfl (qaa (xG w _)) underlying169 rfl (by kernel_rfl)) rfl ?_;exact⟨rfl,zB _⟩
 ·obtain⟨k,hk⟩:∃k,c.opened.length=k+1:=⟨c.opened.length - 1,by omega⟩
  have hx:c.opened[k]?=some c.opened[k]:=yc (by omega);have hl:c.opened.getLast?=some c.opened[k]:=by rw[List.getLast?_eq_getElem?,show c.opened.length - 1=k by omega];exact hx
  have hm:=hO _ (yl hx);generalize c.opened[k]=m at hx hl hm;have hp:c.parts[m]?=some c.parts[m]:=yc hm;have HV:Hid (c.left=(7,c.parts[m].pos)):=by show _=_;unfold Ct.left qk2;rw[hl];simp only;rw[hp]
  generalize c.parts[m]=p at hp HV;obtain⟨go,capo,ha,hc,Ha⟩:=qai h.opened (by omega);obtain⟨gp,capp,hb,Hc,Hb⟩:=qai h.parts (by omega);have q4:∀o,(w.alloc o).cell? (zO go k)=some (zI m):=fun o=>qcs (ha▸(h.alloc o).opened) k _ (qlu _ _ _ hx);have q3:∀o,(w.alloc o).cell? (zO gp (m*4+1))=some (zI p.pos):=fun o=>qcs (hb▸(h.alloc o).parts) _ _ (qeq _ _ _ hp 1 _ rfl);rw[ha,hk]at b4;rw[hb]at b3;rw[HV.out];have d1:(m:Int)<(c.parts.length:Int):=by omega
  generalize c.parts.length=N at b3 d1;have w1:IntKind.i64.wrap (k:Int)=k:=qo4 k (by omega);clear HV h hO hn hc Ha Hc Hb ha hb hx hl hp hm h0 hk;unfold qg8;go_enter func148,ntmps148
  go_wp2
  go_region
  go_wp2
  refine bodyPost_ret (qbn results148 _ _ w.heap.size _ _ rfl (qaa (xG w _)) underlying169 rfl (by kernel_rfl)) rfl ?_;exact⟨rfl,(zB _).drew⟩
theorem qlo(w:World)(o:Obj):(w.alloc o).heap.size=w.heap.size+1:=by unfold World.alloc;simp only[Array.size_push]
variable{P:Program}{fn:Func}{t u p:Tmp}
theorem qoy{ty:TypeId}(h:fn.results=#[.tmp t,.tmp u,.cell p ty])(tmps:Array Value)(w:World)(g:Nat)(cs:Array Value)(d:TypeDesc)(hp:tmps.getD p undef=zP g)
  (hg:∀j v,cs.toList[j]?=some v->w.cell? (zO g j)=some v)
  (hu:P.underlying ty=some d) (hd:aggD d=true) (hi:(P.info? ty).map (·.size)=some cs.size) :
  (results fn tmps).run P w=.ok (.tuple #[tmps.getD t undef,tmps.getD u undef,.agg cs]) w:=by
 have hl:=qbb (P:=P) w g ty cs d hg hu (by cases d<;>first|rfl|cases hd) hi
 rw[yZ]at hp;simp only[results,h];simp[hp,asAddr,hl]
theorem q6n{W:World}{g:Nat}{cs:Array Value}(h:∀(j:Nat) (v:Value),cs.toList[j]?=some v->W.cell? (zO g j)=some v):∀(j:Nat) (v:Value),cs.toList[j]?=some v->W.drew.cell? (zO g j)=some v:=h
theorem qn4{R:Ending->World->Prop}{a:Act}{w:World}{ty:TypeId}(h:fn.results=#[.tmp t,.tmp u,.cell p ty])(g:Nat)(d:TypeDesc)(hu:P.underlying ty=some d)(hd:aggD d=true)(hi:(P.info? ty).map (·.size)=some 6)
  (hp:a.tmps.getD p undef=zP g) (hs:qfu w g) (ha:a.defers=[]) (v0 v1 v2 v3 v4 v5:Value) (x y:Value) (hx:a.tmps.getD t undef=x) (hy:a.tmps.getD u undef=y) (hR:R (.returned (.tuple #[x,y,.agg #[v0,v1,v2,v3,v4,v5]])) (set6 w g v0 v1 v2 v3 v4 v5).drew):bodyPost P fn R .ret a (set6 w g v0 v1 v2 v3 v4 v5).drew:=by
 subst hx hy;exact bodyPost_ret (qoy h a.tmps _ g _ d hp (q6n (qky hs v0 v1 v2 v3 v4 v5)) hu hd hi) ha hR
def qe9(p:Sp)(l:Int):Sp:=if l=2\/l=3 then⟨p.mode,p.tag,p.attr,p.inside,p.run,4⟩else p
section
open Go.Maps
variable{l:List (En×Nat)}{n bn B:Nat}{w w' w0:World}{F:Fix}{S:List Src}{vv:Value}{s:Sr}{M:List Nat}
structure NumsOk(n:Nat)(l:List (En×Nat)):Prop where
 key:∀p∈l,SxFit p.1.2/\p.1.1<n
 one:ql6 l
theorem quy{i:Nat}{p:Value×Value}(h:(qnn l)[i]?=some p):∃q,l[i]?=some q/\p=(qge q.1,zI (q.2:Nat)):=by
 unfold qnn at h;rw[yz]at h;obtain⟨q,h1,h2⟩:=yy.1 h;exact⟨q,h1,h2.symm⟩
theorem qmo(h:NumsOk n l)(hn:n<=7):KeysOk prog 180 (qnn l):=by
 refine⟨fun p hp=>?_,fun i j p q hi hj ha=>?_⟩
 ·obtain⟨i,hi⟩:=xo hp
  obtain⟨r,h1,rfl⟩:=quy hi;have:=h.key r (yl h1);exact qtj this.1.ok this.1.far (by omega)
 ·obtain⟨a,h1,rfl⟩:=quy hi
  obtain⟨b,h2,rfl⟩:=quy hj;exact h.one i j a b h1 h2 (qj5 ha)
theorem qxd{e:En}(h:qa9 l e=none):∀p∈qnn l,p.1≠qge e:=by
 intro p hp;unfold qnn at hp;obtain⟨q,h1,rfl⟩:=xt.1 hp;exact fun x=>qly h q h1 (qj5 x)
theorem qqp(h:qfj w bn (qnn l))(ho:NumsOk n l)(hn:n<=7)(e:En)(he:SxFit e.2)(hi:e.1<=6) :
  (Instr.lookup 176 (.map (some bn)) (qge e) false).run prog w=.ok (zI ((qa9 l e).getD 0:Nat)) w:=by
 obtain⟨kl,ha⟩:=qtj he.ok he.far hi;cases hg:qa9 l e with
 |none=>exact qix qem underlying176 (q3a w) h (qmo ho hn) ha (qxd hg) false
 |some x=>exact qh3 qem underlying176 h (qmo ho hn) ha (xt.2 ⟨(e,x),qg3 hg,rfl⟩) false
theorem q5g(h:qfj w bn (qnn l))(ho:NumsOk n l)(hn:n<=7)(e:En)(he:SxFit e.2)(hi:e.1<=6)(v:Nat) :
  ∃w',(Instr.mapUpdate 176 (.map (some bn)) (qge e) (zI v)).run prog w=.ok () w'/\qfj w' bn (qnn (qbi l e v))/\w.grownBy w' (some bn)/\w'.heap.size=w.heap.size:=by
 obtain⟨kl,ha⟩:=qtj he.ok he.far hi;cases hg:qa9 l e with
 |none=>
   obtain⟨w',h1,h2,h3,h4⟩:=qiw (val:=zI v) qem underlying176 h (qmo ho hn) ha (qxd hg);refine⟨w',h1,?_,h3,h4⟩;rw[qfg hg];unfold qnn at h2 |-;rw[yG];exact h2
 |some y=>
   obtain⟨i,i1,i2⟩:=qif hg v;obtain⟨w',h1,h2,h3,h4⟩:=qk9 (val:=zI v) (v:=zI (y:Nat)) qem underlying176 h (qmo ho hn) ha i (by unfold qnn;rw[yz,i1];rfl);refine⟨w',h1,?_,h3,h4⟩;rw[i2];unfold qnn at h2 |-;rw[List.map_set];exact h2
theorem q5y:(prog.info? 205).map (fun i=>(i.zero,i.size,i.bytes))=some (some (.agg #[zN,zN]),2,48):=by kernel_rfl
theorem qzv:(Value.agg #[zN,zN]).cells.size=2:=rfl
structure Vis1(w wx:World)(B:Nat)(F:Fix)(S:List Src)(vv:Value)(M:List Nat)(s:Sr)(e:En)(n gV gM:Nat):Prop where
 sv:SvAt wx B F S vv M s
 ent:wx.heap[w.heap.size]?=zK (qao e) 180
 vis:wx.heap[gV]?=zK #[F.pv e.1,zF gM n n] 205
 mks:wx.heap[gM]?=zK ((qe2 (List.replicate n 0)).toArray) 3
 old:w.heap.size<=gV/\w.heap.size<=gM
 below:zW w wx
theorem qs4(n:Nat):madeCells #[Value.int .i64 0] n=(qe2 (List.replicate n 0)).toArray:=by
 apply Array.ext';rw[toList_madeCells_one];simp[qe2]
theorem SeAt.mapOther(h:SeAt w B F S vv s){b:Nat}{L:List (Value×Value)}(hm:qfj w b L)(h1:b≠F.be)(h2:b≠F.bp)(hg:w.grownBy w' (some b)):SeAt w' B F S vv s:=by
 have hk:∀k,k<w.heap.size->k≠b->w'.heap[k]?=w.heap[k]?:=fun k hk Ha=>hg.block k hk (fun e=>Ha (yk e));obtain⟨cs',fz',hc⟩:=h.src.blk;refine⟨(hk _ (zL h.blk) (qak h.blk hm)).trans h.blk,h.src.kept (hk _ (ya.1 hc).1 (qak hc hm)) (fun i s' q hs hv=>?_),h.places.heap (hk _ h.places.lt h2.symm),h.ends.heap (hk _ h.ends.lt h1.symm),h.le,h.apart⟩;obtain⟨cur,ha⟩:=qac (h.src.row i s' hs) q hv;exact hk q (ya.1 ha).1 (qak ha hm)
theorem SvAt.numsPut(h:SvAt w B F S vv M s){l:List (En×Nat)}(hm:qfj w' F.bn (qnn l))(hg:w.grownBy w' (some F.bn)):SvAt w' B F S vv M { s with nums:=l }/\Cuv B F w w':=by
 have hk:∀k,k<w.heap.size->k≠F.bn->w'.heap[k]?=w.heap[k]?:=fun k hk hb=>hg.block k hk (fun e=>hb (yk e));have ha:=h.se.mapOther h.nums h.apart.1 h.apart.2.1 hg;refine⟨⟨⟨ha.blk,ha.src,ha.places,ha.ends,ha.le,ha.apart⟩,hm,?_,h.len,?_,h.one,h.apart⟩,⟨⟨hg.os,hg.tape,hg.output,hg.size,fun k hk=>hg.block k (by have:=h.nums.lt;have:=h.apart.2.2;omega) (fun x=>by have:=yk x;have:=h.apart.2.2;omega)⟩,fun k cs t fz Ha _ _ _=>hk k (ya.1 Ha).1 (qak Ha h.nums)⟩⟩
 ·refine qab h.row fun k hv=>?_
  obtain⟨cur,hc⟩:=qac h.row k hv;exact hk k (ya.1 hc).1 (qak hc h.nums)
 ·intro i g v hi hv
  obtain⟨h1,h2⟩:=h.marks i g v hi hv;exact⟨(hk g (ya.1 h1).1 (qak h1 h.nums)).trans h1,h2⟩
theorem SvAt.visit{vv':Value}(h:SvAt w B F S vv M s)(He:zW w w0){i g n:Nat}(hg:w.heap[g]?=some (Obj.cells (qe2 (List.replicate n 0)).toArray 3 (0,0)))(Hj:B<=g)(Hk:g∉M)(hf:w'.ownsRow B 205 2 vv' (s.vis.length+1) (qdw F M s.vis++qip F i g n))(he:w0.grownBy w' vv.ownBlock) :
  SvAt (w'.setCell (zO F.g 4) vv') B F S vv' (M++[g]) { s with vis:=s.vis++[(i,List.replicate n 0)] }/\Cuv B F w (w'.setCell (zO F.g 4) vv'):=by
 have Ha:∀(k:Nat) (cs:Array Value) (t:TypeId) (fz:Nat×Nat),w.heap[k]?=some (.cells cs t fz)->t≠205->w'.heap[k]?=w.heap[k]?:=fun k cs t fz hk ht=>by
  have hi:=(ya.1 hk).1;refine(he.block k (yi hi He.size) (fun e=>?_)).trans (He.block k hi);obtain⟨cur,hc⟩:=qac h.row k e.symm;exact qae hk hc ht rfl
 have Hc:∀b L,qfj w b L->w'.heap[b]?=w.heap[b]?:=fun b L hm=>by
  refine(he.block b (yi hm.lt He.size) (fun e=>?_)).trans (He.block b hm.lt);obtain⟨cur,hc⟩:=qac h.row b e.symm;exact qak hc hm rfl
 have Hb:∀k,k≠F.g->(w'.setCell (zO F.g 4) vv').heap[k]?=w'.heap[k]?:=fun k hk=>xL _ _ _ _ hk;have Hi:=(Ha _ _ _ _ h.se.blk qef.symm).trans h.se.blk;obtain⟨cs',fz',hc⟩:=h.se.src.blk;refine⟨⟨⟨?_,?_,?_,?_,h.se.le,h.se.apart⟩,?_,?_,?_,?_,?_,h.apart⟩,⟨?_,?_⟩⟩
 ·rw[xH _ _ _ _ _ _ Hi]
  simp[qlm]
 ·refine h.se.src.kept ((Hb _ (qae hc h.se.blk qjc.symm)).trans (Ha _ _ _ _ hc qpt.symm)) fun i' s' q hs hv=>?_
  obtain⟨cur,Hf⟩:=qac (h.se.src.row i' s' hs) q hv;exact(Hb _ (qae Hf h.se.blk qk6.symm)).trans (Ha _ _ _ _ Hf qt9.symm)
 ·exact h.se.places.heap ((Hb _ (qak h.se.blk h.se.places).symm).trans (Hc _ _ h.se.places))
 ·exact h.se.ends.heap ((Hb _ (qak h.se.blk h.se.ends).symm).trans (Hc _ _ h.se.ends))
 ·exact h.nums.heap ((Hb _ (qak h.se.blk h.nums).symm).trans (Hc _ _ h.nums))
 ·show World.ownsRow _ _ _ _ _ (s.vis++[_]).length _
  rw[yJ,qn7 F g _ M s.vis h.len,show(List.replicate n (0:Int)).length=n by simp];refine qab hf fun k hk=>Hb k ?_;obtain⟨cur,Hf⟩:=qac hf k hk;exact qae Hf Hi qef
 ·simp[h.len]
 ·intro j g' v hj hv
  rw[yI]at hj;have hv:(s.vis++[(i,List.replicate n 0)])[j]?=some v:=hv;rw[yI,<-h.len]at hv;split at hj
  ·rename_i Hg
   rw[if_pos Hg]at hv;obtain⟨h1,h2⟩:=h.marks j g' v hj hv;exact⟨((Hb g' (qae h1 h.se.blk qgp)).trans (Ha _ _ _ _ h1 qjg.symm)).trans h1,h2⟩
  ·rename_i Hg
   rw[if_neg Hg]at hv;have hl:j - M.length=0:=by
    have:=(yb.1 hj).1;simp at this;omega
   rw[hl]at hj hv;simp only[yS,Option.some.injEq]at hj hv;subst hj hv;exact⟨((Hb _ (qae hg h.se.blk qgp)).trans (Ha _ _ _ _ hg qjg.symm)).trans hg,Hj⟩
 ·rw[List.nodup_append]
  exact⟨h.one,by simp,fun a ha b hb e=>by simp at hb;subst hb e;exact Hk ha⟩
 ·have h1:=h.se.le.1
  have h2:=(zL h.se.blk);exact Below.trans (He.mono (by omega)) (Below.trans ⟨he.os,he.tape,he.output,he.size,fun k hk=>he.block k (by have:=He.size;omega) (fun e=>by have:=(h.row.lt k e.symm).1;omega)⟩ ((xM _ _).setCell (p:=zO F.g 4) h.se.le.1 _))
 ·intro k cs t fz hk h1 h2 _
  exact(Hb k h1).trans (Ha k cs t fz hk h2)
theorem SvAt.ahead(h:SvAt w B F S vv M s)(ha:zW w w0)(Hb:w0.grownBy w' vv.ownBlock):w'.cell? (zO F.g 4)=some vv/\w'.frozen? (zO F.g 4)=false:=by
 have Ha:=(zL h.se.blk);have hb:w'.heap[F.g]?=zK (qlm F S.length vv s.fault) 178:=by
  refine(Hb.block _ (yi Ha ha.size) (fun e=>?_)).trans ((ha.block _ Ha).trans h.se.blk);obtain⟨cur,hc⟩:=qac h.row _ e.symm;exact qae h.se.blk hc qef.symm rfl
 exact⟨qaa hb 4 _ rfl,by simp[World.frozen?,hb]⟩
end
variable{w wr w':World}{B G R E:Nat}{F:Fix}{S:List Src}{vv:Value}{M:List Nat}{s:Sr}{y z:Sx}{e:En}
def ThrC(S:List Src)(k:Nat):Prop:=∀(w:World) (B:Nat) (F:Fix) (vv:Value) (M:List Nat) (s:Sr) (e:En),SvAt w B F S vv M s->Pre S s e->258<=s.nums.length+k->TabB B w ->
    zC 75 #[zP F.g,qge e] w fun ed w'=>(∃r,ed=.returned r)/\(∃vv' ext,SvAt w' B F S vv' (M++ext) (qev S k s e))/\Cuv B F w w'
structure Nmi(w wr:World)(B:Nat)(F:Fix)(S:List Src)(vv:Value)(M:List Nat)(s:Sr)(G:Nat)(y:Sx)(R:Nat)(z:Sx)(E:Nat)(e:En):Prop where
 sv:SvAt wr B F S vv M s
 end':StIn wr G y
 res:StIn wr R z
 ne:G≠R
 ent:wr.heap[E]?=zK (qao e) 180
 old:w.heap.size<=R/\B<=w.heap.size
 cuv:Cuv B F w wr
 tabs:TabB B wr
theorem Nmi.below(h:Nmi w wr B F S vv M s G y R z E e)(hb:zW wr w'):Nmi w w' B F S vv M s G y R z E e:=
 have hB:B<=wr.heap.size:=yh h.old.2 h.cuv.below.size
 ⟨h.sv.below hb,h.end'.below hb,h.res.below hb,h.ne,(hb.block _ (ya.1 h.ent).1).trans h.ent,h.old,h.cuv.trans (Cuv.of_below hb hB),h.tabs.kept (hb.mono hB)⟩
theorem Nmi.alloc(h:Nmi w wr B F S vv M s G y R z E e)(o:Obj):Nmi w (wr.alloc o) B F S vv M s G y R z E e:=h.below (zB o)
theorem Nmi.drew(h:Nmi w wr B F S vv M s G y R z E e):Nmi w wr.drew B F S vv M s G y R z E e:=h.below (xM _ _).drew
theorem Nmi.turn{vv':Value}{M':List Nat}{s':Sr}(h:Nmi w wr B F S vv M s G y R z E e)(hs:SvAt w' B F S vv' M' s')(hc:Cuv B F wr w'):Nmi w w' B F S vv' M' s' G y R z E e:=by
 have k1:=hc.keep G _ _ _ h.end' (qae h.end' h.sv.se.blk qb5) (by decide) (by decide);have k2:=hc.keep R _ _ _ h.res (qae h.res h.sv.se.blk qb5) (by decide) (by decide);have k3:=hc.keep E _ _ _ h.ent (qae h.ent h.sv.se.blk qb6) (by decide) (by decide);exact⟨hs,k1.trans h.end',k2.trans h.res,h.ne,k3.trans h.ent,h.old,h.cuv.trans hc,h.tabs.kept hc.below⟩
theorem Nmi.set(h:Nmi w wr B F S vv M s G y R z E e)(x:Sx):Nmi w (qdf wr R (zJ (x.st.mode:Int)) (zV x.st.name) (zV x.st.elem) (zI x.st.kind) (zI (x.st.read:Int)) (.bool x.ma.ref) (.bool x.st.esc) (zI x.ma.hex) (zI x.ma.pct) (zI x.ma.far)) B F S vv M s G y R x E e:=by
 have ha:=fun k (hk:k≠R)=>qha (w:=wr) hk (zJ (x.st.mode:Int)) (zV x.st.name) (zV x.st.elem) (zI x.st.kind) (zI (x.st.read:Int)) (.bool x.ma.ref) (.bool x.st.esc) (zI x.ma.hex) (zI x.ma.pct) (zI x.ma.far);have Ha:Below R wr (qdf wr R (zJ (x.st.mode:Int)) (zV x.st.name) (zV x.st.elem) (zI x.st.kind) (zI (x.st.read:Int)) (.bool x.ma.ref) (.bool x.st.esc) (zI x.ma.hex) (zI x.ma.pct) (zI x.ma.far)):=qfe (xM _ _) (yg _) _ _ _ _ _ _ _ _ _ _;have hs:=h.res.set x;generalize qdf wr R _ _ _ _ _ _ _ _ _ _=w' at ha Ha hs |-;have hB:=Ha.mono (yh h.old.2 h.old.1);refine⟨h.sv.far h.res ha,(ha _ h.ne).trans h.end',hs,h.ne,(ha _ (qae h.ent h.res qh2)).trans h.ent,h.old,⟨h.cuv.below.trans hB,fun k cs t fz hk h1 h2 h3=>(ha k (fun e=>?_)).trans (h.cuv.keep k cs t fz hk h1 h2 h3)⟩,h.tabs.kept hB⟩;have:=(ya.1 hk).1;have:=h.old.1;omega
theorem Nmi.post{ext:List Nat}(h:Nmi w wr B F S vv (M++ext) s G y R z E e){a:Act}{n:Int}(h6:a.tmps.getD 6 undef=zI n)(hp:a.tmps.getD 7 undef=zP R)(hd:a.defers=[]) :
  bodyPost prog f110 (fun ed w'=>ed=.returned (.tuple #[zI n,qar z])/\(∃vv' ext',SvAt w' B F S vv' (M++ext') s)/\Cuv B F w w') .ret a wr:=by
 refine bodyPost_ret ?_ hd (⟨rfl,⟨vv,ext,h.sv⟩,h.cuv⟩:_/\_);have hl:=qbb (P:=prog) wr R 162 (qaf z) _ (qaa h.res) underlying162 rfl (by kernel_rfl);rw[yZ]at h6 hp;simp only[results,results110];simp[h6,hp,asAddr,hl];rfl
theorem q2d(S:List Src)(hS:SrcsOk S)(w:World)(B:Nat)(F:Fix)(vv:Value)(s:Sr)(n:zU)(x:Sx)(h:SeAt w B F S vv s)(ho:EndsOk S.length s.ends)(hx:SxFit x)(hn:n.length<=2000)(hB:B<=w.heap.size)(ht:TabB B w)(h0:qaj S n≠0)(hy:qa9 s.ends (qaj S n,x)=none)(hf:s.ends.length=256) :
  zC 156 #[zP F.g,zV n,qar x] w fun ed w'=>ed=.returned (qar Sx.none)/\SeAt w' B F S vv { s with fault:=qtd }/\Cue B F w w':=by
 have b1:∀o o',((w.alloc o).alloc o').cell? (zO F.g 1)=some (.map (some F.bp)):=fun o o'=>((h.alloc o).alloc o').cell 1 _ rfl;have b2:∀o o' o'',(((w.alloc o).alloc o').alloc o'').cell? (zO F.g 1)=some (.map (some F.bp)):=fun o o' o''=>(((h.alloc o).alloc o').alloc o'').cell 1 _ rfl;have l1:=fun o o'=>((h.alloc o).alloc o').drew.place hS n (by omega);have l2:=fun o o' o''=>(((h.alloc o).alloc o').alloc o'').drew.place hS n (by omega);have ha:qaj S n<=6:=by have:=qfh S n h0;have:=hS.few;omega
 have HI:=zH (qkc (x:=x) h hB ht (qaj S n));generalize hi:qaj S n=i at *;have i0:((i:Int)==0)=false:=by rw[yf];omega
 generalize (⟨n.toArray⟩:zT)=N at l1 l2 |-;rw[qdx]at HI;unfold qao qaf bs at HI;unfold qar;rw[qdx];unfold qaf bs;clear h;have HY:=zH hy;clear hy;go_enter func156,ntmps156
 go_wp2
 go_region
 go_wp2
 clear b1 b2 l1 l2;generalize World.drew _=w3 at HI |-;have l3:=HI.out.se.drew.look hS ho (i,x) hx ha true;have l4:=fun o=>(HI.out.se.alloc o).drew.look hS ho (i,x) hx ha true;rw[HY.out]at l3 l4;have b1:w3.cell? (zO F.g 2)=some (.map (some F.be)):=HI.out.se.cell 2 _ rfl;have b2:∀o,(w3.alloc o).cell? (zO F.g 2)=some (.map (some F.be)):=fun o=>(HI.out.se.alloc o).cell 2 _ rfl;have he:=qct HI.out.ent;have hg:=fun o=>qct (HI.out.alloc o).ent;unfold qao bs at he hg;have hr:=fun o=>(HI.out.alloc o).res;have m0:=al he;have n0:=fun o=>al (hg o);clear he hg hr;simp only[Option.getD_none,Option.isSome_none,if_true,qbj]at l3 l4;unfold qar qao at l3 l4;simp only[qdx]at l3 l4;unfold bs at l3 l4;go_region
 have H4:=(show Hid _ from(HI.out.alloc (.cells (qaf Sx.none) 162)).drew);rw[qdx]at H4;clear l3 l4 b1 b2 m0 n0;generalize World.drew _=w4 at H4 |-;have hl:=H4.out.se.len;rw[hf]at hl;have b1:w4.cell? (zO F.g 2)=some (.map (some F.be)):=H4.out.se.cell 2 _ rfl;have y5:w4.cell? (zO F.g 5)=some _:=H4.out.se.cell 5 _ rfl;have y6:w4.cell? (zO F.g 6)=some _:=H4.out.se.cell 6 _ rfl;have y7:w4.cell? (zO F.g 7)=some _:=H4.out.se.cell 7 _ rfl;have y8:w4.cell? (zO F.g 8)=some _:=H4.out.se.cell 8 _ rfl;have z5:=H4.out.se.thaw;have hr:=H4.out.res;have Ha:F.g≠w.heap.size+1:=qae H4.out.se.blk hr qb5.symm;have r0:=hr.at'.all;have f0:=hr.slot.thaw;clear hr;have HF:Hid (Bhi w (qdf (qox w4 F.g (zI 3) (zI 0) (zS) (zI 0)) (w.heap.size+1) (zJ 0) (zS) (zS) (zI 0) (zI 0) (.bool false) (.bool false) (zI 0) (zI 0) (zI 0)) B F S vv { s with fault:=qtd } (w.heap.size+1+1) (w.heap.size+1) (i,x) Sx.none):=by
  have hf:=SeAt.fault H4.out.se qtd;exact(H4.out.turn hf.1 hf.2).set Sx.none
 unfold qdf qox at HF;go_wp2
 refine HF.out.post ?_ ?_
 ·rfl
 ·rfl
section
open Go.Lib
def zie(e:Ev)(o:Wt):Prop:=e.room<=9223372036854775807/\(e.room<0\/(o.out.length:Int)<=e.room)
theorem q2g(w:World)(B g:Nat)(a0 a1 a3 a4 a7:Value)(e:Ev)(o:Wt)(p v:Value)(h:WbAt w B g a0 a1 (zI e.room) a3 a4 a7 o.out p v)(t:zU)(ha:o.out.length+t.length<=140737488355328)(hr:zie e o) :
  zC 125 #[zP g,bs t] w fun ed w'=>ed=.returned (zI (e.put o t).2)/\(∃p' v',WbAt w' B g a0 a1 (zI e.room) a3 a4 a7 (e.put o t).1.out p' v')/\Below B w w'/\OthersKept 5 (some g) w w':=by
 have Ha:(⟨t.toArray⟩:zT).size=t.length:=by simp[ByteArray.size]
 by_cases hc:0<=e.room/\e.room - o.out.length<t.length
 ·have ep:e.put o t=({ o with out:=o.out++t.take (e.room - o.out.length).toNat },6):=by unfold Ev.put;rw[if_pos hc]
  rw[ep];obtain⟨rm,hb⟩:∃rm:Nat,e.room=(rm:Int):=⟨e.room.toNat,by omega⟩;have h2:=hr.2;have h1:=hr.1;rw[hb]at h hc h1 h2 |-;have hq:o.out.length+((rm:Int) - o.out.length).toNat=rm:=by omega
  exact q6v w B g a0 a1 a3 a4 a7 rm _ o.out p v h ⟨t.toArray⟩ (by rw[Ha];exact ha) h1 hq (by rw[Ha];omega)
 ·have ep:e.put o t=({ o with out:=o.out++t },0):=by unfold Ev.put;rw[if_neg hc]
  rw[ep];exact q6w w B g a0 a1 a3 a4 a7 e.room o.out p v h ⟨t.toArray⟩ (by rw[Ha];exact ha) hr.1 (by rw[Ha];omega)
end
variable{B B':Nat}{w:World}{v dv:Value}
theorem qk4.up{xs:List Value}(h:qk4 B w v xs)(hB:B<=B'):qk4 B' w v xs:=by
 obtain⟨ao,cap,hv,hl,hx⟩:=h;refine⟨ao,cap,hv,hl,fun ha=>?_⟩;obtain⟨k,o,h1,h2,h3⟩:=hx ha;exact⟨k,o,h1,by omega,h3⟩
theorem qm9.up{d:Dt}(h:qm9 B w d v)(hB:B<=B'):qm9 B' w d v:=by
 obtain⟨iv,nv,hv,h1,h2⟩:=h;exact⟨iv,nv,hv,h1.up hB,h2.up hB⟩
def pcA(dv:Value):Pc->Value
 |none=>zN
 |some _=>dv
def pcI:Pc->Nat
 |none=>0
 |some k=>k
theorem qdk(dv:Value)(p:Pc):qe0 dv p=.agg #[pcA dv p,zI (pcI p)]:=by cases p<;>rfl
theorem qgu{D:List Dt}(h:DsAt B w dv D)(p:Pc):∃ao n cap,pcA dv p=.slice ao n cap:=by
 cases p with
 |none=>exact⟨_,_,_,rfl⟩
 |some k=>obtain⟨ao,cap,hv,_⟩:=h;exact⟨_,_,_,hv⟩
theorem qyb(dv:Value)(D:List Dt)(p:Pc)(name:zT)(B:Nat)(w:World)(hB:B<=w.heap.size)(hD:DsAt B w dv D) :
  zC 214 #[qe0 dv p,.string name] w (zR (qtf dv (qo1 D p name.data.toList)) w):=by
 obtain⟨ao,n,cap,hA⟩:=qgu hD p;have Ha:=qm3 dv D p B (fw w ao n cap (pcI p)) (yh hB (qi3 w ao n cap (pcI p)).below.size) (hD.below ((qi3 w ao n cap (pcI p)).below.mono hB));rw[qdk,hA]at Ha |-;have ha:=Ha.mono (fun e w' h=>(⟨h.1.elim fun v hv=>⟨v,hv.1,hv.2.up hB⟩,h.2⟩:(∃v,e=.returned v/\qm9 w.heap.size (fw w ao n cap (pcI p)) (qbe D p) v)/\Below (fw w ao n cap (pcI p)).heap.size (fw w ao n cap (pcI p)) w'));by_cases hk:(qbe D p).kind=5
 ·cases p with
  |none=>exact absurd (show(0:Int)=5 from hk) (by decide)
  |some k=>
    have e:qo1 D (some k) name.data.toList=(qlc name.data.toList (qbe D (some k)).names (qbe D (some k)).items).map (qd2 k):=by
     show(if(qbe D (some k)).kind≠5 then none else _)=_;rw[if_neg (by simp[hk])]
    rw[e];have hb:dv=.slice ao n cap:=hA;rw[hb];exact zc1 ao n cap k name _ w hk ha
 ·have e:qo1 D p name.data.toList=none:=by
   cases p with
   |none=>rfl
   |some k=>
     show(if(qbe D (some k)).kind≠5 then none else _)=_;rw[if_pos hk]
  rw[e];exact q9s ao n cap (pcI p) dv name _ w hk ha
theorem q86(dv:Value)(D:List Dt)(p:Pc)(B:Nat)(w:World)(hB:B<=w.heap.size)(hD:DsAt B w dv D) :
  zC 177 #[qe0 dv p] w (zR (.bool (qvb (qbe D p))) w):=by
 obtain⟨ao,n,cap,hA⟩:=qgu hD p;refine q85 _ ao n cap (pcI p) (by rw[qdk,hA]) _ B w fun o=>?_;exact qm3 dv D p B (w.alloc o) (by rw[qcf];omega) (hD.below ((xM _ _).alloc hB _))
theorem zbf(dv:Value)(D:List Dt)(p:Pc)(B:Nat)(w:World)(hB:B<=w.heap.size)(hD:DsAt B w dv D)(hn:∀d∈D,-9223372036854775808<=d.n/\d.n<=9223372036854775807)(hP:qzn w)(hg:14<B) :
  zC 176 #[qe0 dv p] w (zR (bs (qc7 (qbe D p))) w):=by
 obtain⟨ao,n,cap,hA⟩:=qgu hD p;have hb:-9223372036854775808<=(qbe D p).n/\(qbe D p).n<=9223372036854775807:=by
  cases p with
  |none=>exact⟨show(-9223372036854775808:Int)<=0 by decide,show(0:Int)<=9223372036854775807 by decide⟩
  |some k=>
    by_cases hk:k<D.length
    ·have e:qbe D (some k)=D[k]:=by simp[qbe,List.getD,List.getElem?_eq_getElem hk]
     rw[e];exact hn _ (List.getElem_mem hk)
    ·have e:qbe D (some k)=Dt.null:=by simp[qbe,List.getD,List.getElem?_eq_none (Nat.le_of_not_lt hk)]
     rw[e];exact⟨by decide,by decide⟩
 refine zbe _ ao n cap (pcI p) (by rw[qdk,hA]) _ B w hb.1 hb.2 (fun w' h=>hP.below h (by omega)) fun o=>?_;exact qm3 dv D p B (w.alloc o) (by rw[qcf];omega) (hD.below ((xM _ _).alloc hB _))
def qzm(w:World)(dv v:Value)(K:List Pc):Prop:=∃so cap,v=.slice so K.length cap/\K.length<=maxLen/\(K≠[]->∃b,so=some (zO b 0)/\b<w.heap.size/\∀i p,K.reverse[i]?=some p->w.cell? (zO b (i*2))=some (pcA dv p)/\w.cell? (zO b (i*2+1))=some (zI (pcI p)))
theorem qzm.below{w':World}{K:List Pc}(h:qzm w dv v K)(hB:w.heap.size<=B)(hb:Below B w w'):qzm w' dv v K:=by
 obtain⟨so,cap,hv,hl,hx⟩:=h;refine⟨so,cap,hv,hl,fun ha=>?_⟩;obtain⟨b,h1,h2,h3⟩:=hx ha;refine⟨b,h1,yi h2 hb.size,fun i p hp=>?_⟩;obtain⟨k1,k2⟩:=h3 i p hp;exact⟨(hb.cell (p:=zO b (i*2)) (yi h2 hB)).trans k1,(hb.cell (p:=zO b (i*2+1)) (yi h2 hB)).trans k2⟩
section
open Go.Lib
variable{B g:Nat}{w w':World}{p v p' v' vv dv sv hv:Value}{e:Ev}{K:List Pc}{o:Wt}
def qis(dv:Value)(K:List Pc):List Value:=K.reverse.flatMap fun p=>[pcA dv p,zI (pcI p)]
def qhd(H:List (Nat×Nat×Int)):List Value:=H.flatMap fun h=>[zI (h.1:Nat),zI (h.2.1:Nat),zI h.2.2]
theorem qjk(dv:Value)(p:Pc)(K:List Pc):qis dv (p::K)=qis dv K++[pcA dv p,zI (pcI p)]:=by simp[qis]
theorem qp8(dv:Value):∀K:List Pc,(qis dv K).length=K.length*2
 |[]=>rfl
 |p::K=>by rw[qjk,yJ,qp8 dv K];simp;omega
theorem qx1(H:List (Nat×Nat×Int))(h:Nat×Nat×Int):qhd (H++[h])=qhd H++[zI (h.1:Nat),zI (h.2.1:Nat),zI h.2.2]:=by simp[qhd]
theorem q8k(f h:Pc->Value):∀(L:List Pc) (i:Nat) (p:Pc),L[i]?=some p->(L.flatMap fun p=>[f p,h p])[i*2]?=some (f p)/\(L.flatMap fun p=>[f p,h p])[i*2+1]?=some (h p)
 |[],i,p,hp=>by cases hp
 |q::L,0,p,hp=>by
   obtain rfl:q=p:=by simpa using hp
   exact⟨rfl,rfl⟩
 |q::L,i+1,p,hp=>by
   have ih:=q8k f h L i p (by simpa using hp);have e:(List.flatMap (fun p=>[f p,h p]) (q::L))=f q::h q::L.flatMap fun p=>[f p,h p]:=rfl;rw[e,show(i+1)*2=i*2+2 by omega,show i*2+2+1=(i*2+1)+2 by omega];exact ih
structure WrV(w:World)(B g:Nat)(vv dv:Value)(e:Ev)(K:List Pc)(o:Wt)(sv hv p v:Value):Prop where
 wb:WbAt w B g vv (zI e.depth) (zI e.room) sv (zI o.steps) hv o.out p v
 st:w.ownsRow B 147 2 sv K.length (qis dv K)
 ho:w.ownsRow B 55 3 hv o.holes.length (qhd o.holes)
def WrAt(w:World)(B g:Nat)(vv dv:Value)(e:Ev)(K:List Pc)(o:Wt):Prop:=∃sv hv p v,WrV w B g vv dv e K o sv hv p v
def Ow(g:Nat)(w:World)(k:Nat):Prop:=k=g\/(∃sv,w.cell? (zO g 3)=some sv/\sv.ownBlock=some k)\/(∃hv,w.cell? (zO g 7)=some hv/\hv.ownBlock=some k)
structure Rn(B g:Nat)(w w':World):Prop where
 below:Below B w w'
 kept:∀k o,w.heap[k]?=some o->¬Ow g w k->(∀c fz,o≠.cells c 5 fz)->w'.heap[k]?=some o
 fresh:∀k,Ow g w' k->Ow g w k\/w.heap.size<=k
theorem Rn.refl(B g:Nat)(w:World):Rn B g w w:=⟨xM _ _,fun _ _ h _ _=>h,fun _ h=>.inl h⟩
theorem Rn.trans{a b c:World}(h:Rn B g a b)(k:Rn B g b c):Rn B g a c:=by
 refine⟨h.below.trans k.below,fun i ob hi hn ho=>?_,fun i hi=>?_⟩
 ·refine k.kept i ob (h.kept i ob hi hn ho) (fun hx=>?_) ho
  rcases h.fresh i hx with h1|h1
  ·exact hn h1
  ·have:=(ya.1 hi).1
   omega
 ·rcases k.fresh i hi with h1 | h1
  ·exact h.fresh i h1
  ·exact .inr (yh h.below.size h1)
theorem qjv(h:w'.heap[g]?=w.heap[g]?)(k:Nat):Ow g w' k↔Ow g w k:=by
 unfold Ow;rw[xQ (a:=zO g 3) h,xQ (a:=zO g 7) h]
theorem Rn.of_below(h:zW w w')(hB:B<=w.heap.size)(hg:g<w.heap.size):Rn B g w w':=
 ⟨h.mono hB,fun k _ hk _ _=>(h.block k (ya.1 hk).1).trans hk,fun k hk=>.inl ((qjv (h.block g hg) k).1 hk)⟩
theorem Rn.of_wb{a0 a1 a2 a3 a4 a4' a7:Value}{l l':zU}(h:WbAt w B g a0 a1 a2 a3 a4 a7 l p v)(h':WbAt w' B g a0 a1 a2 a3 a4' a7 l' p' v')(hb:Below B w w')(hk:OthersKept 5 (some g) w w'):Rn B g w w':=by
 refine⟨hb,fun k ob ha hn ho=>hk k ob ha (fun e=>hn (.inl (yk e))) ho,fun k ha=>.inl ?_⟩;have c:=h.all;have c':=h'.all;rcases ha with rfl|⟨sv,h1,h2⟩|⟨hv,h1,h2⟩
 ·exact .inl rfl
 ·rw[c'.2.2.2.1]at h1
  exact .inr (.inl ⟨sv,c.2.2.2.1.trans h1,h2⟩)
 ·rw[c'.2.2.2.2.2.1]at h1
  exact .inr (.inr ⟨hv,c.2.2.2.2.2.1.trans h1,h2⟩)
theorem quq{n k:Nat}{T:TypeId}{x:Value}{xs:List Value}(h:w.ownsRow B T k x n xs)(hT:T≠5){cs:Array Value}{U:TypeId}{fz:Nat×Nat}(hg:w.heap[g]?=some (.cells cs U fz))(ha:T≠U)(hk:OthersKept 5 (some g) w w'):w'.ownsRow B T k x n xs:=by
 refine qab h fun b hb=>?_;obtain⟨cur,hc⟩:=qac h b hb;rw[hc];refine hk b _ hc (fun e=>?_) (fun c fz' e=>?_)
 ·obtain rfl:=yk e
  rw[hg]at hc;injection hc with hc;injection hc with _ h2 _;exact ha h2.symm
 ·injection e with _ h2 _
  exact hT h2
theorem WrV.turn{o':Wt}(h:WrV w B g vv dv e K o sv hv p v)
  (hw:WbAt w' B g vv (zI e.depth) (zI e.room) sv (zI o'.steps) hv o'.out p' v') (hk:OthersKept 5 (some g) w w') (ho:o'.holes=o.holes):WrV w' B g vv dv e K o' sv hv p' v':=by
 refine⟨hw,quq h.st (by decide) h.wb.blk (by decide) hk,?_⟩;rw[ho];exact quq h.ho (by decide) h.wb.blk (by decide) hk
theorem WrV.below(h:WrV w B g vv dv e K o sv hv p v)(hb:zW w w'):WrV w' B g vv dv e K o sv hv p v:=by
 have hg:=(zL h.wb.blk);refine⟨⟨h.wb.le,(hb.block g hg).trans h.wb.blk,?_,h.wb.adr,h.wb.nil⟩,qab h.st fun b ha=>?_,qab h.ho fun b ha=>?_⟩
 ·exact h.wb.own.kept (row:=none) ⟨hb.os,hb.tape,hb.output,hb.size,fun k hk _=>hb.block k hk⟩ (by cases v.ownBlock with|none=>exact .inl rfl|some k=>exact .inr (by simp))
 ·obtain⟨cur,hc⟩:=qac h.st b ha
  exact hb.block b (ya.1 hc).1
 ·obtain⟨cur,hc⟩:=qac h.ho b ha
  exact hb.block b (ya.1 hc).1
theorem WrAt.below(h:WrAt w B g vv dv e K o)(hb:zW w w'):WrAt w' B g vv dv e K o:=by
 obtain⟨sv,hv,p,v,h⟩:=h;exact⟨sv,hv,p,v,h.below hb⟩
theorem WrAt.lt(h:WrAt w B g vv dv e K o):B<=g/\g<w.heap.size:=by
 obtain⟨sv,hv,p,v,h⟩:=h;exact⟨h.wb.le,(zL h.wb.blk)⟩
theorem WrV.stk(h:WrV w B g vv dv e K o sv hv p v):qzm w dv sv K:=by
 rcases h.st.2 with⟨h1,h2⟩|⟨b,cap,cur,h1,h2,h3,h4,h5,h6,h7⟩
 ·have hK:K=[]:=yC h2
  exact⟨none,0,by rw[h1,hK];rfl,by rw[hK];exact yH _,fun ha=>absurd hK ha⟩
 ·refine⟨_,cap,h1,by omega,fun _=>⟨b,rfl,(ya.1 h3).1,fun i q hq=>?_⟩⟩
  have hx:=q8k (pcA dv) (fun p=>zI (pcI p)) K.reverse i q hq;have hc:∀(j:Nat) (x:Value),(qis dv K)[j]?=some x->w.cell? (zO b j)=some x:=fun j x hx=>by
   have h8:=h.st.cells (g:=b) (by rw[h1];rfl) j x hx
   rwa [show((zO b 0):Addr).add j=(zO b j) by simp only[Addr.add,xg];split<;>simp_all]at h8
  exact⟨hc _ _ hx.1,hc _ _ hx.2⟩
theorem WrAt.own_lt(h:WrAt w B g vv dv e K o){k:Nat}(hk:Ow g w k):k<w.heap.size:=by
 obtain⟨sv,hv,p,bv,hq⟩:=h;have ha:=hq.wb.all;rcases hk with rfl|⟨s2,h5,h6⟩|⟨s2,h5,h6⟩
 ·exact(zL hq.wb.blk)
 ·rw[ha.2.2.2.1]at h5
  obtain rfl:=yk h5;obtain⟨cur,h7⟩:=qac hq.st _ h6;exact(ya.1 h7).1
 ·rw[ha.2.2.2.2.2.1]at h5
  obtain rfl:=yk h5;obtain⟨cur,h7⟩:=qac hq.ho _ h6;exact(ya.1 h7).1
theorem WrAt.keepsOthers(h:WrAt w B g vv dv e K o)(hr:Rn B g w w'):KeepsOthers w w':=by
 obtain⟨sv,hv,p,v,h⟩:=h;refine⟨hr.below.size,fun k ob hk hc=>hr.kept k ob hk (fun hx=>?_) (fun c fz e=>?_)⟩
 ·have c:=h.wb.all
  rcases hx with rfl|⟨sv',h1,h2⟩|⟨ha,h1,h2⟩
  ·rw[h.wb.blk]at hk;cases hk;cases hc
  ·rw[c.2.2.2.1]at h1
   obtain rfl:=yk h1;obtain⟨cur,h3⟩:=qac h.st k h2;rw[h3]at hk;cases hk;cases hc
  ·rw[c.2.2.2.2.2.1]at h1
   obtain rfl:=yk h1;obtain⟨cur,h3⟩:=qac h.ho k h2;rw[h3]at hk;cases hk;cases hc
 ·subst e;cases hc
end
section
open Go.Shelf
variable{w:World}{pb B:Nat}
attribute [local go_sem] Oper.semAt_some
def PbAt(w:World)(pb:Nat)(ao:Option Addr)(n cap k:Nat):Prop:=w.heap[pb]?=zK #[.slice ao n cap,zI k] 147
theorem PbAt.facts{ao:Option Addr}{n cap k:Nat}(h:PbAt w pb ao n cap k):w.cell? (zO pb 0)=some (.slice ao n cap)/\w.cell? (zO pb 1)=some (zI k):=by
 have c:=qaa (show w.heap[pb]?=_ from h);exact⟨c 0 _ rfl,c 1 _ rfl⟩
def Kp(B pb:Nat)(w w':World):Prop:=Below B w w'/\w'.heap[pb]?=w.heap[pb]?
theorem Kp.refl(B pb:Nat)(w:World):Kp B pb w w:=⟨xM _ _,rfl⟩
theorem Kp.trans{a b c:World}(h:Kp B pb a b)(k:Kp B pb b c):Kp B pb a c:=⟨h.1.trans k.1,k.2.trans h.2⟩
theorem Kp.of_below{w':World}(h:zW w w')(hB:B<=w.heap.size)(hp:pb<w.heap.size):Kp B pb w w':=⟨h.mono hB,h.block _ hp⟩
theorem q69(ao:Option Addr)(n cap k:Nat)(w:World) :
  zC 179 #[.agg #[.slice ao n cap,zI k]] w fun e w'=>e=.returned (.func (.func 218) #[] #[zP w.heap.size])/\w'=w.alloc (.cells #[.slice ao n cap,zI k] 147):=by
 have ha:∀(fn:Fn) (first cap:Array Value) (w:World),(Instr.makeFunc fn first cap).run prog w=.ok (.func fn first cap) w:=fun _ _ _ _=>rfl;go_enter func179,ntmps179
 go_wp2
 go_ret
 exact⟨rfl,rfl⟩
structure TdAt(B:Nat)(w W:World)(g pb:Nat)(ao:Option Addr)(n cap k:Nat)(kind:Int)(ia:Option Addr)(icap:Nat)(items:List Int):Prop where
 kp:zW w W
 box:W.cell? (zO pb 0)=some (.slice ao n cap)/\W.cell? (zO pb 1)=some (zI k)
 c0:W.cell? (zO g 0)=some (zI kind)
 c3:W.cell? (zO g 3)=some (.slice ia items.length icap)
 it:∀j x,items[j]?=some x->∃b o,ia=some (zO b o)/\b<B/\W.cell? (zO b (o+j))=some (zI x)
 len:items.length<=maxLen
theorem qn9(dv:Value)(D:List Dt)(p:Pc)(ao:Option Addr)(n cap:Nat)(Ha:qe0 dv p=.agg #[.slice ao n cap,zI (pcI p)])(B pb:Nat)(w:World)(hB:B<=w.heap.size)(hD:DsAt B w dv D)(hP:PbAt w pb ao n cap (pcI p)) :
  zC 215 #[.agg #[.slice ao n cap,zI (pcI p)]] w fun e w'=>∃ia icap na ncap,e=.returned (.agg #[zI (qbe D p).kind,zI (qbe D p).n,bs (qbe D p).s,.slice ia (qbe D p).items.length icap,.slice na (qbe D p).names.length ncap]) /\
   TdAt B w (w'.alloc (.cells #[zI (qbe D p).kind,zI (qbe D p).n,bs (qbe D p).s,.slice ia (qbe D p).items.length icap,.slice na (qbe D p).names.length ncap] 67)) w'.heap.size pb ao n cap (pcI p) (qbe D p).kind ia icap (qbe D p).items:=by
 have h:=qm3 dv D p B w hB hD;rw[Ha]at h;refine h.mono ?_;rintro e w' ⟨⟨v,rfl,hv⟩,hb⟩;obtain⟨ia,icap,na,ncap,rfl,hI,hN⟩:=qhi hv;have ha:=hb.alloc hb.size (.cells #[zI (qbe D p).kind,zI (qbe D p).n,bs (qbe D p).s,.slice ia (qbe D p).items.length icap,.slice na (qbe D p).names.length ncap] 67);have hc:=qaa (xG w' (.cells #[zI (qbe D p).kind,zI (qbe D p).n,bs (qbe D p).s,.slice ia (qbe D p).items.length icap,.slice na (qbe D p).names.length ncap] 67));have Hb:pb<w.heap.size:=(ya.1 (show w.heap[pb]?=_ from hP)).1;refine⟨ia,icap,na,ncap,rfl,ha,PbAt.facts ((ha.block _ Hb).trans hP),hc 0 _ rfl,hc 3 _ rfl,fun j x hj=>?_,by obtain⟨_,_,_,hl,_⟩:=hI;simpa using hl⟩;obtain⟨ao',cap',he,_,hx⟩:=hI;obtain⟨b,o,h1,h2,h3⟩:=hx (fun e=>by have:=List.map_eq_nil_iff.1 e;rw[this]at hj;cases hj);simp only[Value.slice.injEq]at he;exact⟨b,o,he.1.trans h1,h2,(ha.cell (p:=zO b (o+j)) (by show b<_;omega)).trans (h3 j _ (by rw[yz,hj];rfl))⟩
theorem q68(D:List Dt)(p:Pc)(h:(qbe D p).kind≠4):qnb D p=[p]:=by
 cases p with
 |none=>rfl
 |some k=>show(if _ then _ else _)=_;rw[if_pos h]
theorem q37(D:List Dt)(p:Pc)(h:(qbe D p).kind=4):qnb D p=(qbe D p).items.map (qd2 (pcI p)):=by
 cases p with
 |none=>exact absurd (show(0:Int)=4 from h) (by decide)
 |some k=>show(if _ then _ else _)=_;rw[if_neg (by simp[h])];rfl
theorem qkg{β:Type}{J:β->World->Prop}(h:AbidesFrom B J){s:β}{w w':World}(hs:J s w)(hb:zW w w'):J s w':=
 h s w w' none hs ⟨hb.os,hb.tape,hb.output,hb.size,fun k hk _=>hb.block k hk⟩ (fun r e=>by cases e)
theorem q38(dv:Value)(D:List Dt)(p:Pc)(ao:Option Addr)(m cap:Nat)(ha:qe0 dv p=.agg #[.slice ao m cap,zI (pcI p)])(B l pb n:Nat)(hn:1<=n)(J Jx:List Pc->World->Prop)(w:World)(hB:B<=w.heap.size)(hD:DsAt B w dv D)(hP:PbAt w pb ao m cap (pcI p))(hJ:AbidesFrom w.heap.size J)
  (hk:(qbe D p).kind≠4)
  (hY:∀pre x W,J pre W->pre.length<(qnb D p).length->YieldAt Fence.wide (n - 1) prog l #[qe0 dv x] W fun e W'=>(e=.returned (.bool true)/\J (pre++[x]) W'/\Kp B pb W W')\/(e=.returned (.bool false)/\Jx (pre++[x]) W')) (h0:J [] w) :
  CallsIn Fence.wide n prog 218 #[.func (.yield l) #[] #[],zP pb] w fun e W'=>(∃v,e=.returned v)/\((∃ys,ys=qnb D p/\J ys W')\/(∃pre,pre <+: qnb D p/\Jx pre W')):=by
 rw[q68 D p hk]at hY |-
 have HD:Hid (zC 215 #[.agg #[.slice ao m cap,zI (pcI p)]] w fun e w'=>∃dk dn ds ia il icap na nl ncap,e=.returned (.agg #[zI dk,zI dn,.string ds,.slice ia il icap,.slice na nl ncap])/\dk≠4 /\
   (∀g,g=w'.heap.size->(w'.alloc (.cells #[zI dk,zI dn,.string ds,.slice ia il icap,.slice na nl ncap] 67)).cell? (zO g 0)=some (zI dk)) /\
   (w'.alloc (.cells #[zI dk,zI dn,.string ds,.slice ia il icap,.slice na nl ncap] 67)).cell? (zO pb 0)=some (.slice ao m cap)/\(w'.alloc (.cells #[zI dk,zI dn,.string ds,.slice ia il icap,.slice na nl ncap] 67)).cell? (zO pb 1)=some (zI (pcI p)) /\
   YieldAt Fence.wide (n - 1) prog l #[.agg #[.slice ao m cap,zI (pcI p)]] (w'.alloc (.cells #[zI dk,zI dn,.string ds,.slice ia il icap,.slice na nl ncap] 67)) fun e W'=>(e=.returned (.bool true)/\J [p] W')\/(e=.returned (.bool false)/\Jx [p] W')):=by
  refine(qn9 dv D p ao m cap ha B pb w hB hD hP).mono ?_;rintro e w' ⟨ia,icap,na,ncap,rfl,hT⟩;refine⟨_,_,_,_,_,_,_,_,_,rfl,hk,fun g hg=>by subst hg;exact hT.c0,hT.box.1,hT.box.2,?_⟩;have:=hY [] p _ (qkg hJ h0 hT.kp) (by simp);rw[ha]at this;refine this.mono ?_;rintro e W' (⟨h1,h2,_⟩|h)
  ·exact .inl ⟨h1,h2⟩
  ·exact .inr h
 obtain⟨b0,b1⟩:=hP.facts;generalize pcI p=pk at HD b1;clear hY h0 hk hP hD hJ ha;refine callsIn_of_wp func218 rfl trivial ?_ rfl;simp only[ntmps218,List.size_toArray,yK,yQ,Nat.reduceAdd,Nat.reduceSub,Array.replicate_succ,Array.replicate_zero,List.push_toArray,List.append_toArray,xD,xC]
 gi_wp2_with (refine⟨trivial,?_⟩;gi_at_call 215;refine CallsIn.mono (callsIn_wide.2 HD.out) ?_;rintro e w' ⟨dk,dn,ds,ia,il,icap,na,nl,ncap,rfl,hk,hb,hc,Hc,fn,tmps,assign,body,hy,hR⟩;have hb:=hb _ rfl)
 refine hR.mono ?_;rintro e W3 (⟨rfl,Hb⟩|⟨rfl,Ha⟩)
 ·gi_wp2
  refine bodyPost_ret (results_none rfl _ _ _) rfl ?_;exact⟨⟨_,rfl⟩,.inl ⟨_,rfl,Hb⟩⟩
 ·gi_wp2
  refine bodyPost_ret (results_none rfl _ _ _) rfl ?_;exact⟨⟨_,rfl⟩,.inr ⟨_,yA _,Ha⟩⟩
theorem qz0(dv:Value)(D:List Dt)(p:Pc)(ao:Option Addr)(m cap:Nat)(hc:qe0 dv p=.agg #[.slice ao m cap,zI (pcI p)])(hg:dv=.slice ao m cap)(B l pb n:Nat)(hn:1<=n)(J Jx:List Pc->World->Prop)(w:World)(hB:B<=w.heap.size)(hD:DsAt B w dv D)(hP:PbAt w pb ao m cap (pcI p))(hJ:AbidesFrom w.heap.size J)
  (hk:(qbe D p).kind=4)
  (hY:∀pre x W,J pre W->pre.length<(qnb D p).length->YieldAt Fence.wide (n - 1) prog l #[qe0 dv x] W fun e W'=>(e=.returned (.bool true)/\J (pre++[x]) W'/\Kp B pb W W')\/(e=.returned (.bool false)/\Jx (pre++[x]) W')) (h0:J [] w) :
  CallsIn Fence.wide n prog 218 #[.func (.yield l) #[] #[],zP pb] w fun e W'=>(∃v,e=.returned v)/\((∃ys,ys=qnb D p/\J ys W')\/(∃pre,pre <+: qnb D p/\Jx pre W')):=by
 rw[q37 D p hk]at hY |-;have Hg:pb<w.heap.size:=(ya.1 (show w.heap[pb]?=_ from hP)).1
 have HD:Hid (zC 215 #[.agg #[.slice ao m cap,zI (pcI p)]] w fun e w'=>∃dn ds ia icap na nl ncap,e=.returned (.agg #[zI 4,zI dn,.string ds,.slice ia (qbe D p).items.length icap,.slice na nl ncap]) /\
   TdAt B w (w'.alloc (.cells #[zI 4,zI dn,.string ds,.slice ia (qbe D p).items.length icap,.slice na nl ncap] 67)) w'.heap.size pb ao m cap (pcI p) 4 ia icap (qbe D p).items):=by
  refine(qn9 dv D p ao m cap hc B pb w hB hD hP).mono ?_;rintro e w' ⟨ia,icap,na,ncap,rfl,hT⟩;rw[hk]at hT |-;exact⟨_,_,_,_,_,_,_,rfl,hT⟩
 obtain⟨b0,b1⟩:=hP.facts;generalize (qbe D p).items=items at HD hY |-;generalize pcI p=pk at HD b1 hP hY |-;clear hk hD hc;refine callsIn_of_wp func218 rfl trivial ?_ rfl;simp only[ntmps218,List.size_toArray,yK,yQ,Nat.reduceAdd,Nat.reduceSub,Array.replicate_succ,Array.replicate_zero,List.push_toArray,List.append_toArray,xD,xC]
 gi_wp2_with (refine⟨trivial,?_⟩;gi_at_call 215;refine CallsIn.mono (callsIn_wide.2 HD.out) ?_;rintro e w' ⟨dn,ds,ia,icap,na,nl,ncap,rfl,hT⟩;have HT:=zH hT;have hi:=hT.c0;have Hi:=hT.c3;clear hT)
 generalize w'.alloc _=W at HT hi Hi |-;have Hj:PbAt W pb ao m cap pk:=(HT.out.kp.block _ Hg).trans hP;have Hk:=qkg hJ h0 HT.out.kp;have hit:∀j x,items[j]?=some x->∃b o,ia=some (zO b o)/\b<B/\W.cell? (zO b (o+j))=some (zI x):=HT.out.it;have hl:B<=W.heap.size:=yh hB HT.out.kp.size;have Hl:(items.length:Int)<=9223372036854775807:=by have:=HT.out.len;unfold maxLen at this;omega
 gi_loopw [17] (fun i wr=>∃j:Nat,i=zI j/\j<=items.length/\Hid (Kp B pb W wr)/\Hid (J ((items.take j).map (qd2 pk)) wr)) (fun i _=>items.length - (intOf i).toNat)
 case atStart=>exact⟨0,rfl,yH _,Kp.refl _ _ _,Hk⟩
 case round=>
  obtain⟨j,rfl,hj,HK,Hc⟩:=hrel;by_cases hm:(j:Int)<(items.length:Int)
  ·have Hm:j<items.length:=by omega
   obtain⟨x,hx⟩:∃x,items[j]?=some x:=⟨_,yc Hm⟩;obtain⟨b,o,rfl,hb,he⟩:=hit j x hx;have Hn:=(HK.out.1.cell (p:=zO b (o+j)) hb).trans he;have He:PbAt wr pb ao m cap pk:=HK.out.2.trans Hj;obtain⟨e0,e1⟩:=He.facts;have Ha:pb<wr.heap.size:=(ya.1 (show wr.heap[pb]?=_ from He)).1;have hf:(items.take (j+1)).map (qd2 pk)=(items.take j).map (qd2 pk)++[qd2 pk x]:=by
    rw[List.take_add_one,hx];simp
   have ha:(items.take (j+1)).map (qd2 pk) <+: items.map (qd2 pk):=by
    rw[List.map_take];exact List.take_prefix _ _
   have HI:Hid (zC 219 #[.agg #[.slice ao m cap,zI pk],zI x] wr fun e w'=>∃qa qn qcap q,e=.returned (.agg #[.slice qa qn qcap,zI (q:Nat)]) /\
     YieldAt Fence.wide (n - 1) prog l #[.agg #[.slice qa qn qcap,zI q]] w' fun e W'=>(e=.returned (.bool true)/\J ((items.take (j+1)).map (qd2 pk)) W'/\Kp B pb W W')\/(e=.returned (.bool false)/\Jx ((items.take (j+1)).map (qd2 pk)) W')):=by
    refine(q27 ao m cap pk x wr).mono ?_;rintro e w' ⟨rfl,Hf⟩;have ho:=qkg hJ Hc.out Hf;have h2:=hY _ (qd2 pk x) w' ho (by simp;omega);rw[<-hf,hg]at h2;have Ho:Kp B pb W w':=HK.out.trans (Kp.of_below Hf (yh hl HK.out.1.size) Ha);have h3:∃qa qn qcap q,qe0 (.slice ao m cap) (qd2 pk x)=.agg #[.slice qa qn qcap,zI (q:Nat)]:=by
     cases qd2 pk x with
     |none=>exact⟨none,0,0,0,rfl⟩
     |some q=>exact⟨ao,m,cap,q,rfl⟩
    obtain⟨qa,qn,qcap,q,hq⟩:=h3;rw[hq]at h2 |-;refine⟨qa,qn,qcap,q,rfl,h2.mono ?_⟩;rintro e W' (⟨h4,h5,h6⟩|h4)
    ·exact .inl ⟨h4,h5,Ho.trans h6⟩
    ·exact .inr h4
   have HP:=zH ha;clear hf ha he hx
   gi_wp2_with (refine⟨trivial,?_⟩;gi_at_call 219;refine CallsIn.mono (callsIn_wide.2 HI.out) ?_;rintro e w' ⟨qa,qn,qcap,q,rfl,fn,tmps,assign,body,hy,hR⟩)
   refine hR.mono ?_;rintro e W3 (⟨rfl,hp,Hp⟩|⟨rfl,Hb⟩)
   ·gi_wp2
    go_roundw
    case rel=>exact⟨j+1,by go_num,by omega,Hp,hp⟩
    case measure=>simp[intOf];omega
   ·gi_wp2
    refine bodyPost_ret (results_none rfl _ _ _) rfl ?_;exact⟨⟨_,rfl⟩,.inr ⟨_,HP.out,Hb⟩⟩
  ·obtain rfl:j=items.length:=by omega
   gi_wp2
   go_end0
   refine⟨⟨_,rfl⟩,.inl ?_⟩;have h9:=Hc.out;rw[List.take_length]at h9
   first|exact h9|exact⟨_,rfl,h9⟩
theorem qzz(dv:Value)(D:List Dt)(p:Pc)(ao:Option Addr)(m cap:Nat)(hA:pcA dv p=.slice ao m cap)(B pb n:Nat)(hn:1<=n)(w:World)(hB:B<=w.heap.size)(hD:DsAt B w dv D)(hP:PbAt w pb ao m cap (pcI p)) :
  SeqStopsK Fence.wide n prog 218 #[zP pb] (fun x:Pc=>#[qe0 dv x]) (Kp B pb) (fun ys=>ys=qnb D p) (fun pre=>pre <+: qnb D p) (qnb D p).length w:=by
 intro l J Jx W hW hJ _ hY h0;have hb:pb<w.heap.size:=(ya.1 (show w.heap[pb]?=_ from hP)).1;have ha:qe0 dv p=.agg #[.slice ao m cap,zI (pcI p)]:=by rw[qdk,hA]
 have Ha:PbAt W pb ao m cap (pcI p):=(hW.block _ hb).trans hP;by_cases hk:(qbe D p).kind=4
 ·have Hb:dv=.slice ao m cap:=by
   cases p with
   |none=>exact absurd (show(0:Int)=4 from hk) (by decide)
   |some k=>exact hA
  exact qz0 dv D p ao m cap ha Hb B l pb n hn J Jx W (yh hB hW.size) (hD.below (hW.mono hB)) Ha hJ hk hY h0
 ·exact q38 dv D p ao m cap ha B l pb n hn J Jx W (yh hB hW.size) (hD.below (hW.mono hB)) Ha hJ hk hY h0
end
section
open Go.Lib
variable{w0 w w':World}{g M:Nat}{vv dv:Value}{e:Ev}{K:List Pc}{o:Wt}
structure ViOne(w:World)(e:Ev)(v:Nat)(po:Option Addr)(pcap:Nat)(gm:Nat):Prop where
 part:∀j q,(qbp (e.parts v))[j]?=some q->∃b,po=some (zO b 0)/\b<w.heap.size/\w.cell? (zO b j)=some q
 mark:∀j m,(e.marks v)[j]?=some m->w.cell? (zO gm j)=some (zI m)
 lt:gm<w.heap.size
structure Evm(w:World)(vv dv:Value)(e:Ev)(M:Nat):Prop where
 ok:e.Ok
 small:e.Small M
 bound:5001*M<=140737488355328
 ds:DsAt w.heap.size w dv e.D
 num:∀d∈e.D,-9223372036854775808<=d.n/\d.n<=9223372036854775807
 pow:qzn w
 powB:14<w.heap.size
 ml:qa3 w
 tabs:Tabs w
 room:e.room<=9223372036854775807
 depth:0<=e.depth/\e.depth<=50
 shows:∀p,(qc7 (qbe e.D p)).length<=10000000
 names:∀v p,p∈e.parts v->p.text.length<=100000
 vis:∃bv cap,vv=zF bv e.vis.length cap/\bv<w.heap.size/\∀v,v<e.vis.length->∃po pcap gm,ViOne w e v po pcap gm/\w.cell? (zO bv (v*2))=some (.slice po (e.parts v).length pcap)/\w.cell? (zO bv (v*2+1))=some (zF gm (e.parts v).length (e.parts v).length)
def OutC(w0:World)(g:Nat)(vv dv:Value)(e:Ev)(K:List Pc)(r:Wt×Int)(w:World):Ending->World->Prop:=fun ed w'=>
 ed=.returned (zI r.2)/\(∃K',WrAt w' w0.heap.size g vv dv e K' r.1/\(r.2=0->K'=K))/\Rn w0.heap.size g w w'
theorem OutC.from{r:Wt×Int}{w1:World}{ed:Ending}(h:OutC w0 g vv dv e K r w1 ed w')(hr:Rn w0.heap.size g w w1):OutC w0 g vv dv e K r w ed w':=⟨h.1,h.2.1,hr.trans h.2.2⟩
structure Wst(w0:World)(g:Nat)(vv dv:Value)(e:Ev)(M:Nat)(K:List Pc)(o:Wt)(w:World):Prop where
 base:zW w0 w
 at':WrAt w w0.heap.size g vv dv e K o
 fin:Fin e M o
 ne:K≠[]
theorem Wst.below(h:Wst w0 g vv dv e M K o w)(hb:zW w w'):Wst w0 g vv dv e M K o w':=
 ⟨h.base.trans (hb.mono h.base.size),h.at'.below hb,h.fin,h.ne⟩
theorem Wst.rn(h:Wst w0 g vv dv e M K o w)(hb:zW w w'):Rn w0.heap.size g w w':=
 Rn.of_below hb h.base.size h.at'.lt.2
theorem ViOne.below{v:Nat}{po:Option Addr}{pcap gm:Nat}(h:ViOne w e v po pcap gm)(hb:zW w w'):(∀j q,(qbp (e.parts v))[j]?=some q->∃b,po=some (zO b 0)/\w'.cell? (zO b j)=some q)/\(∀j m,(e.marks v)[j]?=some m->w'.cell? (zO gm j)=some (zI m)):=by
 refine⟨fun j q hq=>?_,fun j m hm=>?_⟩
 ·obtain⟨b,h1,h2,h3⟩:=h.part j q hq
  exact⟨b,h1,(hb.cell (p:=zO b j) h2).trans h3⟩
 ·exact(hb.cell (p:=zO gm j) h.lt).trans (h.mark j m hm)
def qjl(po:Option Addr)(n pcap gm:Nat)(at' tz:Nat)(qad:Int):Value:=.agg #[.slice po n pcap,zF gm n n,zI at',zI tz,zI qad]
def qrx(w0:World)(g:Nat)(vv dv:Value)(e:Ev)(M f:Nat):Prop:=
 ∀(v at' tz:Nat) (qad:Int) (K:List Pc) (o:Wt) (w:World) (po:Option Addr) (pcap gm:Nat),ViOne w0 e v po pcap gm->tz<=(e.parts v).length->0<=qad->qad<=50->Wst w0 g vv dv e M K o w->5001<=f+o.steps->K.length<=o.steps+1 ->
  zC 90 #[zP g,qjl po (e.parts v).length pcap gm at' tz qad] w (OutC w0 g vv dv e K (e.run f v at' tz qad K o) w)
theorem qpb(h:Wst w0 g vv dv e M K o w) :
  zC 124 #[zP g] w fun ed w'=>(o.steps=5000/\ed=.returned (zI 5)/\w=w')\/(o.steps≠5000/\ed=.returned (zI 0)/\zW w0 w'/\WrAt w' w0.heap.size g vv dv e K { o with steps:=o.steps+1 }/\Rn w0.heap.size g w w'):=by
 obtain⟨sv,hv,p,v,hw⟩:=h.at';by_cases hs:o.steps=5000
 ·have ha:=hw.wb
  rw[hs]at ha;refine cm (q7t w w0.heap.size g _ _ _ _ _ _ _ _ ha) ?_;exact .inl ⟨hs,rfl,rfl⟩
 ·refine(ze2 w w0.heap.size g o.steps _ _ _ _ _ _ _ _ (by have:=h.fin.steps;omega) hw.wb).mono ?_
  rintro ed w' ⟨rfl,h1,h2,h3⟩;exact .inr ⟨hs,rfl,h.base.trans h2,⟨sv,hv,p,v,hw.turn h1 h3 rfl⟩,Rn.of_wb hw.wb h1 h2 h3⟩
theorem zao(w:World)(g:Nat)(po:Option Addr)(n pcap gm at' tz:Nat)(qad:Int)(R:World->Prop)
  (hS:∀o,zC 124 #[zP g] (w.alloc o) fun ed w'=>ed=.returned (zI 5)/\R w') :
  zC 178 #[zP g,qjl po n pcap gm at' tz qad] w fun ed w'=>ed=.returned (zI 5)/\R w':=by
 have HS:=zH hS;clear hS;unfold qjl;go_enter func178,ntmps178
 go_wp2_with (go_at_call 124;refine xR (HS.out _) ?_;rintro ed w' ⟨rfl,hR⟩)
 go_ret
 exact⟨rfl,hR⟩
theorem zgk(w:World)(g:Nat)(po:Option Addr)(n pcap gm at' tz:Nat)(qad:Int)(R:Ending->World->Prop)(z:Int)(ha:∀ed w',R ed w'->ed=.returned (zI z))
  (hS:∀o,o=.cells #[.slice po n pcap,zF gm n n,zI at',zI tz,zI qad] 208->zC 124 #[zP g] (w.alloc o) fun ed w'=>ed=.returned (zI 0) /\
   (w'.cell? (zO w.heap.size 0)=some (.slice po n pcap)/\w'.cell? (zO w.heap.size 1)=some (zF gm n n)/\w'.cell? (zO w.heap.size 2)=some (zI at')/\w'.cell? (zO w.heap.size 3)=some (zI tz)/\w'.cell? (zO w.heap.size 4)=some (zI qad)) /\
   Hid (zC 90 #[zP g,qjl po n pcap gm at' tz qad] w' R)) :
  zC 178 #[zP g,qjl po n pcap gm at' tz qad] w R:=by
 have HS:Hid (zC 124 #[zP g] (w.alloc (.cells #[.slice po n pcap,zF gm n n,zI at',zI tz,zI qad] 208)) _):=hS _ rfl;clear hS;have HR:=zH ha;clear ha;unfold qjl at HS |-;go_enter func178,ntmps178
 go_wp2_with (first
  |(go_at_call 90;refine xR HP.out ?_;intro ed w2 hR;obtain rfl:=HR.out _ _ hR)
  | (go_at_call 124;refine xR HS.out ?_;rintro ed w' ⟨rfl,⟨c0,c1,c2,c3,c4⟩,HP⟩))
 exact hR
theorem zdo{f:Nat}(HP:qrx w0 g vv dv e M f)(v at' tz:Nat)(qad:Int)(K:List Pc)(o:Wt)(w:World)(po:Option Addr)(pcap gm:Nat)(hv:ViOne w0 e v po pcap gm)(Hc:tz<=(e.parts v).length)(he:0<=qad)(He:qad<=50)(h:Wst w0 g vv dv e M K o w)(hf:5000<=f+o.steps)(hK:K.length<=o.steps+2) :
  zC 178 #[zP g,qjl po (e.parts v).length pcap gm at' tz qad] w (OutC w0 g vv dv e K (qdo (e.run f v at' tz qad K) o) w):=by
 have ha:∀ob,zW w (w.alloc ob):=fun ob=>zB ob;unfold qdo;by_cases hs:o.steps=5000
 ·rw[if_pos hs]
  refine(zao w g po (e.parts v).length pcap gm at' tz qad (fun w'=>(∃K',WrAt w' w0.heap.size g vv dv e K' o/\((5:Int)=0->K'=K))/\Rn w0.heap.size g w w') fun ob=>?_).mono fun ed w' hx=>⟨hx.1,hx.2⟩;refine(qpb (h.below (ha ob))).mono ?_;rintro ed w' (⟨_,rfl,rfl⟩|⟨h1,_⟩)
  ·exact⟨rfl,⟨K,(h.below (ha ob)).at',fun _=>rfl⟩,h.rn (ha ob)⟩
  ·exact absurd hs h1
 ·rw[if_neg hs]
  refine zgk w g po (e.parts v).length pcap gm at' tz qad _ _ (fun ed w' hx=>hx.1) fun ob hc=>?_;have Hf:=h.below (ha ob);refine(qpb Hf).mono ?_;rintro ed w' (⟨h1,_⟩|⟨_,rfl,h2,h3,h4⟩)
  ·exact absurd h1 hs
  ·have hg:(w.alloc ob).heap[w.heap.size]?=some ob:=xG w ob
   have hb:¬Ow g (w.alloc ob) w.heap.size:=fun hx=>Nat.lt_irrefl _ (h.at'.own_lt ((qjv ((ha ob).block g h.at'.lt.2) _).1 hx));have Ha:w'.heap[w.heap.size]?=some ob:=h4.kept _ _ hg hb (fun c fz hx=>by rw[hc]at hx;injection hx with _ hx _;exact absurd hx (by decide));rw[hc]at Ha;have c:=qaa Ha;have Hb:Wst w0 g vv dv e M K { o with steps:=o.steps+1 } w':=⟨h2,h3,(h.fin.step hs).fin,h.ne⟩;refine⟨rfl,⟨c 0 _ rfl,c 1 _ rfl,c 2 _ rfl,c 3 _ rfl,c 4 _ rfl⟩,?_⟩;show Calls _ _ _ _ _;refine(HP v at' tz qad K { o with steps:=o.steps+1 } w' po pcap gm hv Hc he He Hb (by show 5001<=f+(o.steps+1);omega) (by show K.length<=o.steps+1+1;omega)).mono ?_;intro ed w2 hx;exact hx.from ((h.rn (ha ob)).trans h4)
end
section
open Go Go.Shelf
variable{B g k n n' k' fuel:Nat}{w w':World}{cs:Array Value}{vv dv x y sv hv p v:Value}{e:Ev}{K:List Pc}{o:Wt}{xs ys:List Value}{listed:Array Bool}{a:Act}
structure Mine(g:Nat)(w:World)(k:Nat)(cs:Array Value)(T:TypeId):Prop where
 blk:w.heap[k]?=zK cs T
 far:¬Ow g w k
 ty:T≠5
theorem Mine.rn{T:TypeId}(h:Mine g w k cs T)(hr:Rn B g w w'):Mine g w' k cs T:=by
 refine⟨hr.kept k _ h.blk h.far (fun c fz e=>by injection e with _ h2 _;exact h.ty h2),fun hx=>?_,h.ty⟩;rcases hr.fresh k hx with h1|h1
 ·exact h.far h1
 ·have:=(zL h.blk)
  omega
theorem Mine.new(h:WrAt w B g vv dv e K o)(cs:Array Value)(T:TypeId)(hT:T≠5):Mine g (w.alloc (.cells cs T)) w.heap.size cs T:=
 ⟨xG w _,fun hx=>Nat.lt_irrefl _ (h.own_lt ((qjv (((xM _ w).alloc (yg _) _).block g h.lt.2) _).1 hx)),hT⟩
theorem Mine.cell{T:TypeId}(h:Mine g w k cs T)(j:Nat)(v:Value)(hj:cs[j]?=some v):w.cell? (zO k j)=some v:=qaa h.blk j v (by simpa using hj)
theorem Mine.thaw{T:TypeId}(h:Mine g w k cs T)(j:Nat):w.frozen? (zO k j)=false:=by simp[World.frozen?,h.blk]
theorem Mine.lt{T:TypeId}(h:Mine g w k cs T):k<w.heap.size:=(zL h.blk)
theorem Mine.gne{T:TypeId}(h:Mine g w k cs T):k≠g:=fun e=>h.far (.inl e)
theorem WrAt.set(h:WrAt w B g vv dv e K o){k:Nat}{cs:Array Value}{T:TypeId}(hm:Mine g w k cs T)(j:Nat)(v:Value):WrAt (w.setCell (zO k j) v) B g vv dv e K o:=by
 have hk:∀i,i≠k->(w.setCell (zO k j) v).heap[i]?=w.heap[i]?:=fun i hi=>xL _ _ _ _ hi;obtain⟨sv,hv,p,bv,hq⟩:=h;have ha:=hq.wb.all;refine⟨sv,hv,p,bv,⟨hq.wb.le,(hk g (fun e=>hm.gne e.symm)).trans hq.wb.blk,?_,hq.wb.adr,hq.wb.nil⟩,qab hq.st fun b hb=>hk b fun e=>?_,qab hq.ho fun b hb=>hk b fun e=>?_⟩
 ·refine hq.wb.own.kept (row:=some k) ⟨rfl,rfl,rfl,by simp[World.setCell],fun i _ hi=>hk i (fun e=>hi (by simp[e]))⟩ (Or.inr fun e=>?_)
  rcases hq.wb.own.2 with⟨h1,_⟩|⟨b,cap,cur,fz,h1,_,h3,_⟩
  ·rw[h1]at e;cases e
  ·rw[h1]at e
   obtain rfl:b=k:=yk e;have h4:=hm.blk;rw[h3]at h4;injection h4 with h4;injection h4 with _ h4 _;exact hm.ty h4.symm
 ·subst e
  exact hm.far (.inr (.inl ⟨sv,ha.2.2.2.1,hb⟩))
 ·subst e
  exact hm.far (.inr (.inr ⟨hv,ha.2.2.2.2.2.1,hb⟩))
theorem qju{T U:TypeId}{fz:Nat×Nat}(h:w.ownsRow B T k x n xs)(hg:w.heap[g]?=some (.cells cs U fz))(ha:T≠U):x.ownBlock≠some g:=by
 intro e;obtain⟨cur,hc⟩:=qac h g e;exact qae hc hg ha rfl
theorem qxb{T U:TypeId}(h:w.ownsRow B T k x n xs)(h':w.ownsRow B U k' y n' ys)(ha:T≠U):x.ownBlock=none\/x.ownBlock≠y.ownBlock:=by
 cases hx:x.ownBlock with
 |none=>exact .inl rfl
 |some b=>
   right;intro e;obtain⟨c1,h1⟩:=qac h b hx;obtain⟨c2,h2⟩:=qac h' b e.symm;exact qae h1 h2 ha rfl
theorem qsz{T U:TypeId}(h:w.ownsRowF B T k x n xs)(h':w.ownsRow B U k' y n' ys)(ha:T≠U):x.ownBlock=none\/x.ownBlock≠y.ownBlock:=by
 rcases h.2 with⟨h1,_⟩|⟨b,cap,cur,fz,h1,_,h3,_⟩
 ·exact .inl (by rw[h1];rfl)
 ·right
  intro e;rw[h1]at e;obtain⟨c2,h2⟩:=qac h' b e.symm;exact qae h3 h2 ha rfl
theorem q2w{T:TypeId}(h:w.ownsRow B T k x n xs){b:Nat}(hb:x.ownBlock=some b):B<=b:=by
 rcases h.2 with⟨h1,_⟩|⟨c,cap,cur,h1,h2,_⟩
 ·rw[h1]at hb;cases hb
 ·rw[h1]at hb
  obtain rfl:c=b:=yk hb;exact h2
theorem q8o{α:Type}{x y:Option α}(h:x=none\/x≠y){b:α}(hx:x=some b):some b≠y:=by
 rcases h with h|h
 ·rw[h]at hx;cases hx
 ·rw[<-hx];exact h
theorem WrV.push{w1:World}(h:WrV w B g vv dv e K o sv hv p v)(hb:zW w w1)(x:Pc){v':Value}
  (Hc:w'.ownsRow B 147 2 v' (K.length+1) (qis dv K++[pcA dv x,zI (pcI x)])) (he:w1.grownBy w' sv.ownBlock) (hf:v'.ownBlock=sv.ownBlock\/v'.ownBlock=some w1.heap.size) :
  (w'.cell? (zO g 3)=some sv/\w'.frozen? (zO g 3)=false)/\WrV (w'.setCell (zO g 3) v') B g vv dv e (x::K) o v' hv p v/\Rn B g w (w'.setCell (zO g 3) v'):=by
 have h1:=h.below hb;have hg:g<w1.heap.size:=(zL h1.wb.blk);have ha:=(he.block g hg (fun e=>qju h1.st h1.wb.blk (by decide) e.symm)).trans h1.wb.blk;have Ha:∀i,i≠g->(w'.setCell (zO g 3) v').heap[i]?=w'.heap[i]?:=fun i hi=>xL _ _ _ _ hi;have Hg:=xH _ _ 3 _ _ v' ha;have hj:B<=w1.heap.size:=yh h1.wb.le (yj hg);have Hj:v.ownBlock=none\/v.ownBlock≠some g:=Or.inr h1.wb.ne;have Hf:Below B w (w'.setCell (zO g 3) v'):=((hb.mono (yh h.wb.le (yj (zL h.wb.blk)))).trans ((xM B w1).grown he hj (fun k e=>q2w h1.st e))).setCell (p:=zO g 3) h.wb.le _;refine⟨⟨qaa ha 3 _ rfl,by simp[World.frozen?,ha]⟩,⟨⟨h1.wb.le,Hg,?_,h1.wb.adr,h1.wb.nil⟩,?_,?_⟩,⟨Hf,fun k ob hk hn _=>?_,fun k hk=>?_⟩⟩
 ·exact(h1.wb.own.kept (row:=sv.ownBlock) he (qsz h1.wb.own h1.st (by decide))).kept (row:=some g) ⟨rfl,rfl,rfl,by simp[World.setCell],fun i _ hi=>Ha i (fun e=>hi (by simp[e]))⟩ Hj
 ·rw[qjk]
  exact qab Hc fun b He=>Ha b (fun e=>by subst e;exact qju Hc ha (by decide) He)
 ·refine qab h1.ho fun b He=>?_
  obtain⟨cur,hc⟩:=qac h1.ho b He;exact(Ha b (fun e=>by subst e;exact qju h1.ho h1.wb.blk (by decide) He)).trans (he.block b (ya.1 hc).1 (q8o (qxb h1.ho h1.st (by decide)) He))
 ·have Hi:=(ya.1 hk).1
  have Hk:=(hb.block k Hi).trans hk;have Hb:=h.wb.all;exact(Ha k (fun e=>hn (.inl e))).trans ((he.block k (yi Hi hb.size) (fun e=>hn (.inr (.inl ⟨sv,Hb.2.2.2.1,e.symm⟩)))).trans Hk)
 ·have Hb:=h.wb.all
  have c:=qaa Hg;rcases hk with rfl|⟨s2,h5,h6⟩|⟨s2,h5,h6⟩
  ·exact .inl (.inl rfl)
  ·rw[c 3 _ rfl]at h5
   obtain rfl:=yk h5;rcases hf with h7|h7
   ·exact .inl (.inr (.inl ⟨sv,Hb.2.2.2.1,by rw[<-h7];exact h6⟩))
   ·rw[h7]at h6
    have:=yk h6;have:=hb.size;exact .inr (by omega)
  ·rw[c 7 _ rfl]at h5
   obtain rfl:=yk h5;exact .inl (.inr (.inr ⟨_,Hb.2.2.2.2.2.1,h6⟩))
theorem WrV.pop{x:Pc}(h:WrV w B g vv dv e (x::K) o sv hv p v) :
  ∃so cap,sv=.slice so (K.length+1) cap/\K.length+1<=cap/\cap<=maxLen/\WrV (w.setCell (zO g 3) (.slice so K.length cap)) B g vv dv e K o (.slice so K.length cap) hv p v/\Rn B g w (w.setCell (zO g 3) (.slice so K.length cap)):=by
 have ha:∀v',∀i,i≠g->(w.setCell (zO g 3) v').heap[i]?=w.heap[i]?:=fun v' i hi=>xL _ _ _ _ hi;have he:=h.st;rcases h.st.2 with⟨_,h2⟩|⟨b,cap,cur,h1,h2,h3,h4,h5,h6,h7⟩
 ·cases h2
 ·subst h1
  have Hb:b≠g:=fun e=>by subst e;exact qju h.st h.wb.blk (by decide) rfl
  have Ha:(qis dv K).length=K.length*2:=qp8 dv K;have hc:cur.toList.take (K.length*2)=qis dv K:=by
   have h8:=yE (List.take (K.length*2)) h7;rw[List.take_take,qjk,xE (by omega),<-Ha,List.take_length,Ha]at h8;rw[<-h8]
   congr 1
   simp only[yK];omega
  refine⟨some (zO b 0),cap,rfl,h4,h5,⟨⟨h.wb.le,xH _ _ 3 _ _ _ h.wb.blk,?_,h.wb.adr,h.wb.nil⟩,⟨Ha,.inr ⟨b,cap,cur,rfl,h2,(ha _ b Hb).trans h3,by simp only[yK]at h4;omega,h5,h6,hc⟩⟩,qab h.ho fun b' Hc=>ha _ b' (fun e=>by subst e;exact qju h.ho h.wb.blk (by decide) Hc)⟩,⟨(xM B w).setCell (p:=zO g 3) h.wb.le _,fun k ob hk hn _=>(ha _ k (fun e=>hn (.inl e))).trans hk,fun k hk=>.inl ?_⟩⟩
  ·exact h.wb.own.kept (row:=some g) ⟨rfl,rfl,rfl,by simp[World.setCell],fun i _ hi=>ha _ i (fun e=>hi (by simp[e]))⟩ (Or.inr h.wb.ne)
  ·have hb:=h.wb.all
   have c:=qaa (xH _ _ 3 _ _ (zF b K.length cap) h.wb.blk);rcases hk with rfl|⟨s2,h8,h9⟩|⟨s2,h8,h9⟩
   ·exact .inl rfl
   ·rw[c 3 _ rfl]at h8
    obtain rfl:=yk h8;exact .inr (.inl ⟨_,hb.2.2.2.1,h9⟩)
   ·rw[c 7 _ rfl]at h8
    obtain rfl:=yk h8;exact .inr (.inr ⟨_,hb.2.2.2.2.2.1,h9⟩)
theorem WrV.grown(h:WrV w B g vv dv e K o sv hv p v){row:Option Nat}(ha:w.grownBy w' row)(hr:∀r,row=some r->∃ob:Obj,w.heap[r]?=some ob/\ob.isCells=false):WrV w' B g vv dv e K o sv hv p v:=by
 have hk:∀(k:Nat) (cs:Array Value) (T:TypeId) (fz:Nat×Nat),w.heap[k]?=some (Obj.cells cs T fz)->w'.heap[k]?=some (Obj.cells cs T fz):=fun k cs T fz hk=>(ha.block k (ya.1 hk).1 (fun e=>by
  obtain⟨ob,h1,h2⟩:=hr k e.symm;rw[hk]at h1;cases h1;cases h2)).trans hk
 refine⟨⟨h.wb.le,hk _ _ _ _ h.wb.blk,?_,h.wb.adr,h.wb.nil⟩,qab h.st fun b hb=>?_,qab h.ho fun b hb=>?_⟩
 ·refine h.wb.own.kept (row:=row) ha ?_
  rcases h.wb.own.2 with⟨h1,_⟩|⟨b,cap,cur,fz,h1,_,h3,_⟩
  ·exact .inl (by rw[h1];rfl)
  ·right
   intro e;rw[h1]at e;obtain⟨ob,h4,h5⟩:=hr b e.symm;rw[h3]at h4;cases h4;cases h5
 ·obtain⟨cur,hc⟩:=qac h.st b hb
  rw[hc];exact hk _ _ _ _ hc
 ·obtain⟨cur,hc⟩:=qac h.ho b hb
  rw[hc];exact hk _ _ _ _ hc
theorem WrAt.grown(h:WrAt w B g vv dv e K o){row:Option Nat}(ha:w.grownBy w' row)(hr:∀r,row=some r->∃ob:Obj,w.heap[r]?=some ob/\ob.isCells=false):WrAt w' B g vv dv e K o:=by
 obtain⟨sv,hv,p,v,h⟩:=h;exact⟨sv,hv,p,v,h.grown ha hr⟩
def Gb(g:Nat)(w:World):Prop:=∃cs,w.heap[g]?=zK cs 155
theorem WrAt.gb(h:WrAt w B g vv dv e K o):Gb g w:=by
 obtain⟨sv,hv,p,v,h⟩:=h;exact⟨_,h.wb.blk⟩
theorem qi6{row:Option Nat}(ha:w.grownBy w' row)(hr:∀r,row=some r->∃ob:Obj,w.heap[r]?=some ob/\ob.isCells=false){k:Nat}{cs:Array Value}{T:TypeId}{fz:Nat×Nat}(hk:w.heap[k]?=some (.cells cs T fz)):w'.heap[k]?=w.heap[k]?:=
 ha.block k (ya.1 hk).1 fun e=>by
  obtain⟨ob,h1,h2⟩:=hr k e.symm;rw[hk]at h1;cases h1;cases h2
theorem Gb.grown(h:Gb g w){row:Option Nat}(ha:w.grownBy w' row)(hr:∀r,row=some r->∃ob:Obj,w.heap[r]?=some ob/\ob.isCells=false):Gb g w':=by
 obtain⟨cs,h⟩:=h;exact⟨cs,(qi6 ha hr h).trans h⟩
theorem Mine.grown{T:TypeId}(h:Mine g w k cs T)(hG:Gb g w){row:Option Nat}(ha:w.grownBy w' row)(hr:∀r,row=some r->∃ob:Obj,w.heap[r]?=some ob/\ob.isCells=false):Mine g w' k cs T:=by
 obtain⟨gs,hG⟩:=hG;exact⟨(qi6 ha hr h.blk).trans h.blk,fun hx=>h.far ((qjv (qi6 ha hr hG) _).1 hx),h.ty⟩
theorem Rn.grown{a b:World}(h:Rn B g w a)(hB:B<=w.heap.size)(hG:Gb g a){row:Option Nat}(ha:a.grownBy b row)(hr:∀r,row=some r->w.heap.size<=r/\∃ob:Obj,a.heap[r]?=some ob/\ob.isCells=false):Rn B g w b:=by
 obtain⟨gs,hG⟩:=hG;refine⟨h.below.grown ha (yh hB h.below.size) (fun k e=>yh hB (hr k e).1),fun k ob hk hn ho=>(ha.block k (yi (ya.1 hk).1 h.below.size) (fun e=>?_)).trans (h.kept k ob hk hn ho),fun k hk=>h.fresh k ((qjv (qi6 ha (fun r e=>(hr r e).2) hG) _).1 hk)⟩;have h1:=(hr k e.symm).1;have h2:=(ya.1 hk).1;omega
theorem Mine.put{z:Value}{T:TypeId}(h:Mine g w k #[z] T)(v:Value):Mine g (w.setCell (zO k 0) v) k #[v] T:=
 ⟨xH _ _ 0 _ _ v h.blk,fun hx=>h.far ((qjv (xL _ _ _ _ (fun e=>h.gne (by simpa using e.symm))) _).1 hx),h.ty⟩
theorem Mine.apart{T:TypeId}(h:Mine g w k cs T){sv:Value}(hc:w.cell? (zO g 3)=some sv):some k≠sv.ownBlock:=fun e=>h.far (.inr (.inl ⟨sv,hc,e.symm⟩))
theorem q73{W:World}(hB:B<=w.heap.size)(hW:WrAt W B g vv dv e K o)(Ha:Rn B g w W){k:Nat}{z:Value}{T:TypeId}(hm:Mine g W k #[z] T){D:Nat}(hD:w.heap.size<=D)(hb:W.heap[D]?=some (.deferred (some []))) :
  WrAt (W.putObj D (.deferred none)) B g vv dv e K o/\Rn B g w (W.putObj D (.deferred none))/\(W.putObj D (.deferred none)).cell? (zO k 0)=some z:=by
 have ha:=grownBy_putObj' W D (.deferred none);have hr:∀r,some D=some r->w.heap.size<=r/\∃ob:Obj,W.heap[r]?=some ob/\ob.isCells=false:=fun r e=>by cases e;exact⟨hD,_,hb,rfl⟩
 exact⟨hW.grown ha (fun r e=>(hr r e).2),Ha.grown hB hW.gb ha hr,(hm.grown hW.gb ha (fun r e=>(hr r e).2)).cell 0 _ rfl⟩
section
variable {P:Program}{md:Region.Mode}{ops:Array Oper}{Q:Exit->Act->World->Prop}{S:World->Prop}
theorem qbf{i:Nat}(v:Value){o:Oper}(hi:ops[i]?=some o)(hs:Region.noSelect ops=true)(hf:Region.free md ops listed i=true)(hr:(Region.ready md ops listed).contains i=true)
  (hQ:∀c a w,Q (.panic c) (a.put o.dst v) w->Q (.panic c) a w) (hg:o.guard=none) (hy:∀w',S w'->(execOp a.eval o).run P w'=.ok (.value v) w') (hS:S w) (h:wpAnyH P md ops Q S fuel (listed.setIfInBounds i true) (a.put o.dst v) w):wpAnyH P md ops Q S (fuel+1) listed a w:=
 wpAnyH_take hi hs hf hr hQ (Or.inl ⟨by simp[Region.wanted,hg],hy⟩) hS h
theorem rd{r:Nat}{o:Oper}(hr:Region.ready md ops listed=[r])(ho:ops[r]?=some o)
  (h:∀K':Act->World->Prop,Shut (∀a w,S w->(S w->wpAnyH P md ops Q S fuel (listed.setIfInBounds r true) a w)->K' a w)->if Region.wanted o (yielded ops a.tmps)=true then Oper.wp P o a w K' Q else K' (a.put o.dst undef) w):wpAnyH P md ops Q S (fuel+1) listed a w:=
 wpAnyH_ready hr (by simp) (AllReadyH.cons ho h AllReadyH.nil)
theorem qji{o:Oper}{K:Act->World->Prop}{E:Prop}(hg:o.guard=none)(f:FuncId)(xs:Array Operand)(ts:Array TypeId)(hb:o.op=Op.call { callee:=Callee.value (.func f),args:=xs,argTypes:=ts })(hE:Enters P f)(R:Value->World->Prop)(args:Array Value)(ha:xs.map a.eval=args)
  (hC:Calls P f args w fun e w'=>∃v,e=.returned v/\R v w') (hK:∀v w',R v w'->K (a.put o.dst v) w'):if Region.wanted o (yielded ops a.tmps)=true then Oper.wp P o a w K Q else E:=by
 have hw:Region.wanted o (yielded ops a.tmps)=true:=by simp[Region.wanted,hg]
 rw[if_pos hw];have Ha:(execOp a.eval o).run P w=.ok (.enter f args) w:=by
  rw[<-ha];simp[execOp,hb,resolve,invoke,go_sem];exact hE _ _
 unfold Oper.wp;rw[Ha];refine hC.mono ?_;rintro e w' ⟨v,rfl,hR⟩;exact hK v w' hR
end
end
variable{w w':World}
structure PrAt(w w':World):Prop where
 res:w'.heap[w.heap.size]?=zK #[zN,zI 0] 147
 below:zW w w'
theorem qut(w:World):PrAt w (w.alloc (.cells #[zN,zI 0] 147)):=⟨xG w _,zB _⟩
theorem PrAt.lt(h:PrAt w w'):w.heap.size<w'.heap.size:=(zL h.res)
theorem PrAt.next{w1:World}(h:PrAt w w1)(hb:zW w1 w'):PrAt w w':=
 ⟨(hb.block _ h.lt).trans h.res,h.below.trans (hb.mono h.below.size)⟩
theorem PrAt.facts(h:PrAt w w'):(w'.cell? (zO w.heap.size 0)=some (zN)/\w'.cell? (zO w.heap.size 1)=some (zI 0))/\w'.frozen? (zO w.heap.size 0)=false/\w'.frozen? (zO w.heap.size 1)=false:=by
 have c:=qaa h.res;refine⟨⟨c 0 _ rfl,c 1 _ rfl⟩,?_⟩;simp[World.frozen?,h.res]
theorem qz2(dv v:Value)(D:List Dt)(K:List Pc)(name:zT)(B:Nat)(w:World)(hB:B<=w.heap.size)(hD:DsAt B w dv D)(hK:qzm w dv v K) :
  zC 213 #[v,.string name] w (zR (qe0 dv (qh6 D name.data.toList K)) w):=by
 obtain⟨R,HR⟩:∃R,Hid (qh6 D name.data.toList K=R):=⟨_,rfl⟩;rw[HR.out];have HK:=zH hK;have HD:=zH hD;obtain⟨so,cap,rfl,hl,_⟩:=hK;have Hl:(K.length:Int)<=9223372036854775807:=by unfold maxLen at hl;omega
 clear hl hD;go_enter func213,ntmps213
 go_wp2
 go_loopw [5] (fun i wr=>∃j:Nat,i=zI ((j:Int) - 1)/\j<=K.length/\Hid (PrAt w wr)/\Hid (qh6 D name.data.toList (K.drop (K.length - j))=R)) (fun i _=>(intOf i+1).toNat)
 case atStart=>exact⟨K.length,by go_num,yg _,qut w,by rw[xA];exact HR.out⟩
 case round=>
  obtain⟨j,rfl,hj,HP,HJ⟩:=hrel;by_cases hk:j=0
  ·subst hk
   have HE:Hid (R=none):=by
    show _=_;rw[<-HJ.out,Nat.sub_zero,List.drop_length];rfl
   obtain⟨⟨r0,r1⟩,f0,f1⟩:=HP.out.facts;clear HJ HR;go_wp2
   rw[HE.out];exact qlt (g:=w.heap.size) results213 rfl rfl (xH _ _ _ _ _ _ (xH _ _ _ _ _ _ HP.out.res)) rfl ⟨rfl,(HP.out.below.setCell (p:=zO w.heap.size 0) (yg _) _).setCell (p:=zO w.heap.size 1) (yg _) _⟩
  ·obtain⟨m,rfl⟩:∃m,j=m+1:=⟨j - 1,by omega⟩
   have hm:m<K.reverse.length:=by rw[List.length_reverse];omega
   obtain⟨p,hp⟩:∃p,K.reverse[m]?=some p:=⟨_,yc hm⟩;have ha:K.drop (K.length - (m+1))=p::K.drop (K.length - m):=by
    have h1:K.length - (m+1)<K.length:=by omega
    rw[yo h1,show K.length - (m+1)+1=K.length - m by omega]
    congr 1
    rw[List.getElem?_reverse (by omega)]at hp;have h2:K.length - 1 - m=K.length - (m+1):=by omega
    rw[h2,yc h1]at hp;exact yk hp
   have he:Hid ((match qo1 D p name.data.toList with|some q=>q|none=>qh6 D name.data.toList (K.drop (K.length - m)))=R):=by
    show _=_;have:=HJ.out;rw[ha]at this;exact this
   obtain⟨so',cap',He,_,hx⟩:=HK.out;simp only[Value.slice.injEq]at He;obtain⟨b,hi,Hi,Ha⟩:=hx (fun e=>by rw[e]at hj;simp at hj);have hf:so=some (zO b 0):=He.1.trans hi;subst hf;obtain⟨d0,d1⟩:=Ha m p hp;have e0:=(HP.out.below.cell (p:=zO b (m*2)) Hi).trans d0;have e1:=(HP.out.below.cell (p:=zO b (m*2+1)) Hi).trans d1;have Hb:Hid (zC 214 #[qe0 dv p,.string name] wr (zR (qtf dv (qo1 D p name.data.toList)) wr)):=qyb dv D p name B wr (yh hB HP.out.below.size) (DsAt.below HD.out (HP.out.below.mono hB));have HA:=zH (qgu HD.out);obtain⟨pa,pn,pcap,Hf⟩:=HA.out p;rw[qdk,Hf]at Hb;rw[Hf]at e0;have Hm:(m:Int)<(K.length:Int):=by omega
   have hn:(0:Int)<=(m:Int):=by omega
   have hg:((m+1:Nat):Int) - 1=(m:Int):=by omega
   rw[hg];clear Ha hx d0 d1 HJ ha hp hm HR hi He Hf;cases hr:qo1 D p name.data.toList with
   |none=>
     rw[hr]at Hb he;have hc:Hid (zC 214 #[.agg #[.slice pa pn pcap,zI (pcI p)],.string name] wr (zR (.tuple #[.agg #[zN,zI 0],.bool false]) wr)):=Hb;clear Hb hr;go_wp2_with (go_at_call 214;refine xR hc.out ?_;rintro e w' ⟨rfl,hb⟩;have HB:=zH hb;clear hb)
     go_roundw
     case rel=>exact⟨m,by go_num,by omega,(HP.out.next HB.out).next (zB _),he⟩
     case measure=>simp[intOf]
   |some q=>
     rw[hr]at Hb he;obtain⟨qa,qn,qcap,Hg⟩:=HA.out q;have hc:Hid (zC 214 #[.agg #[.slice pa pn pcap,zI (pcI p)],.string name] wr (zR (.tuple #[.agg #[.slice qa qn qcap,zI (pcI q)],.bool true]) wr)):=by
      have h:=Hb.out;show Calls _ _ _ _ _;rw[<-Hg,<-qdk];exact h
     have Hk:Hid (qe0 dv R=.agg #[.slice qa qn qcap,zI (pcI q)]):=by
      show _=_;rw[<-he.out,qdk,Hg]
     clear Hb hr Hg he;go_wp2_with (go_at_call 214;refine xR hc.out ?_;rintro e w' ⟨rfl,hb⟩;have Hc:=fun o=>(HP.out.next hb).next (zB o);have Hj:=zH Hc;have r0:=fun o=>(Hc o).facts.1.1;have r1:=fun o=>(Hc o).facts.1.2;have f0:=fun o=>(Hc o).facts.2.1;have f1:=fun o=>(Hc o).facts.2.2;clear hb Hc)
     rw[Hk.out];exact qlt (g:=w.heap.size) results213 rfl rfl (xH _ _ _ _ _ _ (xH _ _ _ _ _ _ (Hj.out _).res)) rfl ⟨rfl,((Hj.out _).below.setCell (p:=zO w.heap.size 0) (yg _) _).setCell (p:=zO w.heap.size 1) (yg _) _⟩
theorem qvf(b:UInt8)(w:World)(ht:Tabs w) :
  zC 143 #[zI 3,zJ b.toNat] w (zQ (.bool (qee 3 b)) w):=by
 have c0:w.cell? (zO 9 21)=some _:=ht.2.2 21 _ rfl;have c1:w.cell? (zO 9 22)=some _:=ht.2.2 22 _ rfl;have c2:w.cell? (zO 9 23)=some (.string ⟨#[45,46,95,126,47,63,35,91,93,64,33,36,40,41,42,43,44,59,61]⟩):=ht.2.2 23 _ rfl;clear ht;by_cases h1:qbl b=true
 ·have HV:Hid (qee 3 b=false):=qvw b h1
  go_enter func143,ntmps143
  go_wp2_with (first|(go_at_call 132;refine cm (qby b _) ?_)|(go_at_call 102;refine cm (qde b _) ?_))
  go_ret
  exact⟨qas (by rw[HV.out]),rfl⟩
 have h1:qbl b=false:=ye.2 h1;by_cases h2:qea b=true
 ·have HV:Hid (qee 3 b=false):=qyw b h2
  go_enter func143,ntmps143
  go_wp2_with (first|(go_at_call 132;refine cm (qby b _) ?_)|(go_at_call 102;refine cm (qde b _) ?_))
  go_ret
  exact⟨qas (by rw[HV.out]),rfl⟩
 have h2:qea b=false:=ye.2 h2;by_cases hp:among b [45,46,95,126,47,63,35,91,93,64,33,36,40,41,42,43,44,59,61]=true
 ·have HV:Hid (qee 3 b=false):=q17 b hp
  go_enter func143,ntmps143
  go_wp2_with (first|(go_at_call 132;refine cm (qby b _) ?_)|(go_at_call 102;refine cm (qde b _) ?_)|(go_at_call 130;refine(qgw b _ [45,46,95,126,47,63,35,91,93,64,33,36,40,41,42,43,44,59,61] _ rfl hp).mono ?_;rintro e w' ⟨x,hx,rfl,rfl⟩))
  go_ret
  exact⟨qas (by rw[HV.out];simp;omega),rfl⟩
 have hp:among b [45,46,95,126,47,63,35,91,93,64,33,36,40,41,42,43,44,59,61]=false:=ye.2 hp;have HV:Hid (qee 3 b=true):=q6f b h1 h2 hp;go_enter func143,ntmps143
 go_wp2_with (first|(go_at_call 132;refine cm (qby b _) ?_)|(go_at_call 102;refine cm (qde b _) ?_)|(go_at_call 130;refine cm (qgd b _ [45,46,95,126,47,63,35,91,93,64,33,36,40,41,42,43,44,59,61] _ rfl hp) ?_))
 go_ret
 exact⟨qas (by rw[HV.out]),rfl⟩
theorem q1g(b:UInt8)(w:World)(ht:Tabs w) :
  zC 143 #[zI 1,zJ b.toNat] w (zQ (.bool (qee 1 b)) w):=by
 have c0:w.cell? (zO 9 7)=some _:=ht.2.2 7 _ rfl;have c1:w.cell? (zO 9 8)=some _:=ht.2.2 8 _ rfl;have c2:w.cell? (zO 9 9)=some _:=ht.2.2 9 _ rfl;clear ht;by_cases h1:b.toNat<32
 ·have HV:Hid (qee 1 b=false):=qyy b
  go_enter func143,ntmps143
  go_wp2_with (first|fail)
  go_ret
  exact⟨qas (by rw[HV.out]),rfl⟩
 by_cases h2:b.toNat=127
 ·have HV:Hid (qee 1 b=false):=qyy b
  have h2:((b.toNat:Int)==127)=true:=yF.2 (by omega);go_enter func143,ntmps143
  go_wp2_with (first|fail)
  go_ret
  exact⟨qas (by rw[HV.out]),rfl⟩
 have ha:Hid (ctl b=false):=zaa b h1 h2;have h2:((b.toNat:Int)==127)=false:=yf.2 (by omega);have hp:among b []=false:=rfl;have HV:Hid (qee 1 b=false):=qyy b;go_enter func143,ntmps143
 go_wp2_with (first|(go_at_call 130;refine cm (qgd b _ [] _ rfl hp) ?_))
 go_ret
 exact⟨qas (by rw[HV.out]),rfl⟩
theorem qxu(b:UInt8)(w:World)(ht:Tabs w) :
  zC 143 #[zI 4,zJ b.toNat] w (zQ (.bool (qee 4 b)) w):=by
 have c0:w.cell? (zO 9 28)=some _:=ht.2.2 28 _ rfl;have c1:w.cell? (zO 9 29)=some _:=ht.2.2 29 _ rfl;have c2:w.cell? (zO 9 30)=some _:=ht.2.2 30 _ rfl;clear ht;by_cases h1:b.toNat<32
 ·have HV:Hid (qee 4 b=true):=by show _=_;rw[q3v,zef b h1];rfl
  go_enter func143,ntmps143
  go_wp2_with (first|fail)
  go_ret
  exact⟨qas (by rw[HV.out]),rfl⟩
 by_cases h2:b.toNat=127
 ·have HV:Hid (qee 4 b=true):=by show _=_;rw[q3v,zab b h2];rfl
  have h2:((b.toNat:Int)==127)=true:=yF.2 (by omega);go_enter func143,ntmps143
  go_wp2_with (first|fail)
  go_ret
  exact⟨qas (by rw[HV.out]),rfl⟩
 have ha:Hid (ctl b=false):=zaa b h1 h2;have h2:((b.toNat:Int)==127)=false:=yf.2 (by omega);by_cases hp:among b [34,39,38,47,60,62,92,96]=true
 ·have HV:Hid (qee 4 b=true):=by show _=_;rw[q3v,ha.out,hp];rfl
  go_enter func143,ntmps143
  go_wp2_with (first|(go_at_call 130;refine(qgw b _ [34,39,38,47,60,62,92,96] _ rfl hp).mono ?_;rintro e w' ⟨x,hx,rfl,rfl⟩))
  go_ret
  exact⟨qas (by rw[HV.out]),rfl⟩
 ·have hp:among b [34,39,38,47,60,62,92,96]=false:=ye.2 hp
  have HV:Hid (qee 4 b=false):=by show _=_;rw[q3v,ha.out,hp];rfl
  go_enter func143,ntmps143
  go_wp2_with (first|(go_at_call 130;refine cm (qgd b _ [34,39,38,47,60,62,92,96] _ rfl hp) ?_))
  go_ret
  exact⟨qas (by rw[HV.out]),rfl⟩
theorem qxv(b:UInt8)(w:World)(ht:Tabs w) :
  zC 143 #[zI 5,zJ b.toNat] w (zQ (.bool (qee 5 b)) w):=by
 have c0:w.cell? (zO 9 35)=some _:=ht.2.2 35 _ rfl;have c1:w.cell? (zO 9 36)=some _:=ht.2.2 36 _ rfl;have c2:w.cell? (zO 9 37)=some _:=ht.2.2 37 _ rfl;clear ht;by_cases h1:b.toNat<32
 ·have HV:Hid (qee 5 b=true):=by show _=_;rw[q3u,zef b h1];rfl
  go_enter func143,ntmps143
  go_wp2_with (first|fail)
  go_ret
  exact⟨qas (by rw[HV.out]),rfl⟩
 by_cases h2:b.toNat=127
 ·have HV:Hid (qee 5 b=true):=by show _=_;rw[q3u,zab b h2];rfl
  have h2:((b.toNat:Int)==127)=true:=yF.2 (by omega);go_enter func143,ntmps143
  go_wp2_with (first|fail)
  go_ret
  exact⟨qas (by rw[HV.out]),rfl⟩
 have ha:Hid (ctl b=false):=zaa b h1 h2;have h2:((b.toNat:Int)==127)=false:=yf.2 (by omega);by_cases hp:among b [34,39,38,47,60,62,92]=true
 ·have HV:Hid (qee 5 b=true):=by show _=_;rw[q3u,ha.out,hp];rfl
  go_enter func143,ntmps143
  go_wp2_with (first|(go_at_call 130;refine(qgw b _ [34,39,38,47,60,62,92] _ rfl hp).mono ?_;rintro e w' ⟨x,hx,rfl,rfl⟩))
  go_ret
  exact⟨qas (by rw[HV.out]),rfl⟩
 ·have hp:among b [34,39,38,47,60,62,92]=false:=ye.2 hp
  have HV:Hid (qee 5 b=false):=by show _=_;rw[q3u,ha.out,hp];rfl
  go_enter func143,ntmps143
  go_wp2_with (first|(go_at_call 130;refine cm (qgd b _ [34,39,38,47,60,62,92] _ rfl hp) ?_))
  go_ret
  exact⟨qas (by rw[HV.out]),rfl⟩
theorem qkz(acc x y:zU):Lib.byteCells acc++Lib.byteCells x++Lib.byteCells y=Lib.byteCells (acc++(x++y)):=by
 rw[Lib.byteCells_append,Lib.byteCells_append,yq]
theorem qpj(B bl:Nat)(acc:zU)(b:UInt8)(w:World)(ht:Tabs w)(hB:9<B)(hI:Lib.IsBuilderF 153 5 B bl (Lib.byteCells acc) w)(hl:acc.length<=1000000000)(hc:B<=w.heap.size) :
  zC 144 #[zP bl,zI 3,zJ b.toNat] w fun e w'=>e=.returned (.tuple #[])/\Lib.IsBuilderF 153 5 B bl (Lib.byteCells (acc++qhk 3 b)) w'/\Below B w w':=by
 have hb:b.toNat<256:=UInt8.toNat_lt b;have c3:w.cell? (zO 9 24)=some (.string ⟨#[37]⟩):=ht.2.2 24 _ rfl;have c4:w.cell? (zO 9 25)=some (.string ⟨#[48,49,50,51,52,53,54,55,56,57,65,66,67,68,69,70]⟩):=ht.2.2 25 _ rfl;have HT:Hid (two b _=_):=zgu b (by omega) (by omega);go_enter func144,ntmps144
 go_wp2_with fail
 refine(Builder_WriteString_k B bl _ ⟨#[37]⟩ _ hI (by rw[Lib.byteCells_length];show _+1<=_;omega) hc).mono ?_;rintro e w1 ⟨rfl,h1,b1,_⟩;have Ha:=ht.kept b1 hB;have z1:=b1.size;have c5:w1.cell? (zO 9 26)=some (.bool false):=Ha.2.2 26 _ rfl;have ha:Hid ((Lib.byteCells acc++Lib.strCells ⟨#[37]⟩).length=acc.length+1):=by show _=_;simp[Lib.byteCells_length,Lib.strCells]
 by_cases hq:16<=b.toNat
 ·go_wp2_with fail
  refine(Builder_WriteByte_k B bl _ _ _ (Or.inr h1) (by rw[ha.out];omega) (by omega)).mono ?_;rintro e w2 ⟨rfl,h2,b2,_⟩;have z2:=b2.size;go_wp2_with fail
  refine(Builder_WriteByte_k B bl _ _ _ (Or.inr h2) (by rw[yJ,ha.out];simp;omega) (by omega)).mono ?_;rintro e w3 ⟨rfl,h3,b3,_⟩;have z3:=b3.size;have Hb:=(Ha.kept b2 hB).kept b3 hB;have c6:w3.cell? (zO 9 27)=some (zS):=Hb.2.2 27 _ rfl;go_wp2_with fail
  refine(Builder_WriteString_k B bl _ ⟨#[]⟩ _ (Or.inr h3) (by simp only[yJ,ha.out];show _+0<=_;simp;omega) (by omega)).mono ?_;rintro e w4 ⟨rfl,h4,b4,_⟩;go_wp2_with fail
  go_end0
  refine⟨rfl,?_,((b1.trans b2).trans b3).trans b4⟩;rw[zgf,HT.out,<-yw [_,_],<-qkz];exact Or.inr (by simpa [Lib.byteCells,Lib.strCells]using h4)
 ·go_wp2_with fail
  refine(Builder_WriteByte_k B bl _ _ _ (Or.inr h1) (by rw[ha.out];omega) (by omega)).mono ?_;rintro e w2 ⟨rfl,h2,b2,_⟩;have z2:=b2.size;go_wp2_with fail
  refine(Builder_WriteByte_k B bl _ _ _ (Or.inr h2) (by rw[yJ,ha.out];simp;omega) (by omega)).mono ?_;rintro e w3 ⟨rfl,h3,b3,_⟩;have z3:=b3.size;have Hb:=(Ha.kept b2 hB).kept b3 hB;have c6:w3.cell? (zO 9 27)=some (zS):=Hb.2.2 27 _ rfl;go_wp2_with fail
  refine(Builder_WriteString_k B bl _ ⟨#[]⟩ _ (Or.inr h3) (by simp only[yJ,ha.out];show _+0<=_;simp;omega) (by omega)).mono ?_;rintro e w4 ⟨rfl,h4,b4,_⟩;go_wp2_with fail
  go_end0
  refine⟨rfl,?_,((b1.trans b2).trans b3).trans b4⟩;rw[zgf,HT.out,<-yw [_,_],<-qkz];exact Or.inr (by simpa [Lib.byteCells,Lib.strCells]using h4)
theorem qry(B bl:Nat)(acc:zU)(b:UInt8)(w:World)(ht:Tabs w)(hB:9<B)(hI:Lib.IsBuilderF 153 5 B bl (Lib.byteCells acc) w)(hl:acc.length<=1000000000)(hc:B<=w.heap.size) :
  zC 144 #[zP bl,zI 4,zJ b.toNat] w fun e w'=>e=.returned (.tuple #[])/\Lib.IsBuilderF 153 5 B bl (Lib.byteCells (acc++qhk 4 b)) w'/\Below B w w':=by
 have hb:b.toNat<256:=UInt8.toNat_lt b;have c3:w.cell? (zO 9 31)=some (.string ⟨#[92,120]⟩):=ht.2.2 31 _ rfl;have c4:w.cell? (zO 9 32)=some (.string ⟨#[48,49,50,51,52,53,54,55,56,57,97,98,99,100,101,102]⟩):=ht.2.2 32 _ rfl;have HT:Hid (two b _=_):=zdz b (by omega) (by omega);go_enter func144,ntmps144
 go_wp2_with fail
 refine(Builder_WriteString_k B bl _ ⟨#[92,120]⟩ _ hI (by rw[Lib.byteCells_length];show _+2<=_;omega) hc).mono ?_;rintro e w1 ⟨rfl,h1,b1,_⟩;have Ha:=ht.kept b1 hB;have z1:=b1.size;have c5:w1.cell? (zO 9 33)=some (.bool false):=Ha.2.2 33 _ rfl;have ha:Hid ((Lib.byteCells acc++Lib.strCells ⟨#[92,120]⟩).length=acc.length+2):=by show _=_;simp[Lib.byteCells_length,Lib.strCells]
 by_cases hq:16<=b.toNat
 ·go_wp2_with fail
  refine(Builder_WriteByte_k B bl _ _ _ (Or.inr h1) (by rw[ha.out];omega) (by omega)).mono ?_;rintro e w2 ⟨rfl,h2,b2,_⟩;have z2:=b2.size;go_wp2_with fail
  refine(Builder_WriteByte_k B bl _ _ _ (Or.inr h2) (by rw[yJ,ha.out];simp;omega) (by omega)).mono ?_;rintro e w3 ⟨rfl,h3,b3,_⟩;have z3:=b3.size;have Hb:=(Ha.kept b2 hB).kept b3 hB;have c6:w3.cell? (zO 9 34)=some (zS):=Hb.2.2 34 _ rfl;go_wp2_with fail
  refine(Builder_WriteString_k B bl _ ⟨#[]⟩ _ (Or.inr h3) (by simp only[yJ,ha.out];show _+0<=_;simp;omega) (by omega)).mono ?_;rintro e w4 ⟨rfl,h4,b4,_⟩;go_wp2_with fail
  go_end0
  refine⟨rfl,?_,((b1.trans b2).trans b3).trans b4⟩;rw[zge,HT.out,<-yw [_,_],<-qkz];exact Or.inr (by simpa [Lib.byteCells,Lib.strCells]using h4)
 ·go_wp2_with fail
  refine(Builder_WriteByte_k B bl _ _ _ (Or.inr h1) (by rw[ha.out];omega) (by omega)).mono ?_;rintro e w2 ⟨rfl,h2,b2,_⟩;have z2:=b2.size;go_wp2_with fail
  refine(Builder_WriteByte_k B bl _ _ _ (Or.inr h2) (by rw[yJ,ha.out];simp;omega) (by omega)).mono ?_;rintro e w3 ⟨rfl,h3,b3,_⟩;have z3:=b3.size;have Hb:=(Ha.kept b2 hB).kept b3 hB;have c6:w3.cell? (zO 9 34)=some (zS):=Hb.2.2 34 _ rfl;go_wp2_with fail
  refine(Builder_WriteString_k B bl _ ⟨#[]⟩ _ (Or.inr h3) (by simp only[yJ,ha.out];show _+0<=_;simp;omega) (by omega)).mono ?_;rintro e w4 ⟨rfl,h4,b4,_⟩;go_wp2_with fail
  go_end0
  refine⟨rfl,?_,((b1.trans b2).trans b3).trans b4⟩;rw[zge,HT.out,<-yw [_,_],<-qkz];exact Or.inr (by simpa [Lib.byteCells,Lib.strCells]using h4)
theorem qrz(B bl:Nat)(acc:zU)(b:UInt8)(w:World)(ht:Tabs w)(hB:9<B)(hI:Lib.IsBuilderF 153 5 B bl (Lib.byteCells acc) w)(hl:acc.length<=1000000000)(hc:B<=w.heap.size) :
  zC 144 #[zP bl,zI 5,zJ b.toNat] w fun e w'=>e=.returned (.tuple #[])/\Lib.IsBuilderF 153 5 B bl (Lib.byteCells (acc++qhk 5 b)) w'/\Below B w w':=by
 have hb:b.toNat<256:=UInt8.toNat_lt b;have c3:w.cell? (zO 9 38)=some (.string ⟨#[92]⟩):=ht.2.2 38 _ rfl;have c4:w.cell? (zO 9 39)=some (.string ⟨#[48,49,50,51,52,53,54,55,56,57,97,98,99,100,101,102]⟩):=ht.2.2 39 _ rfl;have HT:Hid (two b _=_):=zdz b (by omega) (by omega);go_enter func144,ntmps144
 go_wp2_with fail
 refine(Builder_WriteString_k B bl _ ⟨#[92]⟩ _ hI (by rw[Lib.byteCells_length];show _+1<=_;omega) hc).mono ?_;rintro e w1 ⟨rfl,h1,b1,_⟩;have Ha:=ht.kept b1 hB;have z1:=b1.size;have c5:w1.cell? (zO 9 40)=some (.bool true):=Ha.2.2 40 _ rfl;have ha:Hid ((Lib.byteCells acc++Lib.strCells ⟨#[92]⟩).length=acc.length+1):=by show _=_;simp[Lib.byteCells_length,Lib.strCells]
 by_cases hq:16<=b.toNat
 ·have HC:Hid (qhk 5 b=92::(two b qgh++[32])):=by show _=_;rw[zgd,zes b hq]
  go_wp2_with fail
  refine(Builder_WriteByte_k B bl _ _ _ (Or.inr h1) (by rw[ha.out];omega) (by omega)).mono ?_;rintro e w2 ⟨rfl,h2,b2,_⟩;have z2:=b2.size;go_wp2_with fail
  refine(Builder_WriteByte_k B bl _ _ _ (Or.inr h2) (by rw[yJ,ha.out];simp;omega) (by omega)).mono ?_;rintro e w3 ⟨rfl,h3,b3,_⟩;have z3:=b3.size;have Hb:=(Ha.kept b2 hB).kept b3 hB;have c6:w3.cell? (zO 9 41)=some (.string ⟨#[32]⟩):=Hb.2.2 41 _ rfl;go_wp2_with fail
  refine(Builder_WriteString_k B bl _ ⟨#[32]⟩ _ (Or.inr h3) (by simp only[yJ,ha.out];show _+1<=_;simp;omega) (by omega)).mono ?_;rintro e w4 ⟨rfl,h4,b4,_⟩;go_wp2_with fail
  go_end0
  refine⟨rfl,?_,((b1.trans b2).trans b3).trans b4⟩;rw[HC.out,HT.out];exact Or.inr (by simpa [Lib.byteCells,Lib.strCells]using h4)
 ·have HC:Hid (qhk 5 b=92::([(two b qgh).getD 1 0]++[32])):=by show _=_;rw[zgd,zer b (by omega)]
  go_wp2_with fail
  refine(Builder_WriteByte_k B bl _ _ _ (Or.inr h1) (by rw[ha.out];omega) (by omega)).mono ?_;rintro e w3 ⟨rfl,h3,b3,_⟩;have z3:=b3.size;have Hb:=Ha.kept b3 hB;have c6:w3.cell? (zO 9 41)=some (.string ⟨#[32]⟩):=Hb.2.2 41 _ rfl;go_wp2_with fail
  refine(Builder_WriteString_k B bl _ ⟨#[32]⟩ _ (Or.inr h3) (by simp only[yJ,ha.out];show _+1<=_;simp;omega) (by omega)).mono ?_;rintro e w4 ⟨rfl,h4,b4,_⟩;go_wp2_with fail
  go_end0
  refine⟨rfl,?_,(b1.trans b3).trans b4⟩;rw[HC.out,HT.out];exact Or.inr (by simpa [Lib.byteCells,Lib.strCells]using h4)
theorem qq1(kd:Int)(hk:kd=1\/kd=3\/kd=4\/kd=5)(b:UInt8)(w:World)(ht:Tabs w) :
  zC 143 #[zI kd,zJ b.toNat] w (zQ (.bool (qee kd b)) w):=by
 rcases hk with rfl|rfl|rfl|rfl
 ·exact q1g b w ht
 ·exact qvf b w ht
 ·exact qxu b w ht
 ·exact qxv b w ht
theorem qt4(kd:Int)(hk:kd=3\/kd=4\/kd=5)(B bl:Nat)(acc:zU)(b:UInt8)(w:World)(ht:Tabs w)(hB:9<B)(hI:Lib.IsBuilderF 153 5 B bl (Lib.byteCells acc) w)(hl:acc.length<=1000000000)(ha:B<=w.heap.size) :
  zC 144 #[zP bl,zI kd,zJ b.toNat] w fun e w'=>e=.returned (.tuple #[])/\Lib.IsBuilderF 153 5 B bl (Lib.byteCells (acc++qhk kd b)) w'/\Below B w w':=by
 rcases hk with rfl|rfl|rfl
 ·exact qpj B bl acc b w ht hB hI hl ha
 ·exact qry B bl acc b w ht hB hI hl ha
 ·exact qrz B bl acc b w ht hB hI hl ha
theorem qv1{T e:TypeId}{B b:Nat}{bs:List Value}{w w':World}(h:Lib.IsBuilderF T e B b bs w)(hb:zW w w'):Lib.IsBuilderF T e B b bs w':=by
 have lt:∀ {k:Nat} {o:Obj},w.heap[k]?=some o->w'.heap[k]?=some o:=by
  intro k o hk;rw[hb.block k (ya.1 hk).1];exact hk
 have one:∀p,Lib.BuilderAtF T e B b p bs w->Lib.BuilderAtF T e B b p bs w':=by
  rintro p ⟨hB,v,Hb,⟨ha,Ha⟩,hc⟩;refine⟨hB,v,lt Hb,⟨ha,?_⟩,hc⟩;rcases Ha with h0|⟨g,cap,cur,fz,h1,h2,h3,h4⟩
  ·exact .inl h0
  ·exact .inr ⟨g,cap,cur,fz,h1,h2,lt h3,h4⟩
 rcases h with h|h
 ·exact .inl (one _ h)
 ·exact .inr (one _ h)
theorem q4g(kd:Int)(s:zT)(k:Nat)(f t:zU)(w:World)(ht:Tabs w)(h:qey kd (s.data.toList.drop k)=(f,t)) :
  zC 141 #[zI kd,.string (s.extract k s.size)] w (zR (.tuple #[zV f,zV t]) w):=by
 have e:(s.extract k s.size).data.toList=s.data.toList.drop k:=by
  rw[ByteArray.data_extract,Array.toList_extract,xB];apply yp;rw[yM,q84];omega
 have:=qz8 kd (s.extract k s.size) w ht;rw[e,h]at this;exact this
theorem qpi(kd:Int)(hk:kd=1\/kd=3\/kd=4\/kd=5)(s:zT)(w:World)(ht:Tabs w)(hs:s.size<=100000000) :
  zC 100 #[zI kd,.string s] w (zR (zV (qgi kd s.data.toList)) w):=by
 have HK:Hid (kd=1\/kd=3\/kd=4\/kd=5):=hk;clear hk;have hB:=ht.lt;go_enter func100,ntmps100
 go_wp2_with fail
 refine(Builder_Grow_fresh w.heap.size w.heap.size s.size _ (yg _) (qte w) (by simp) (by omega)).mono ?_;rintro e W1 ⟨rfl,Hi,hj⟩;have hc:zW w W1:=((xM _ w).alloc (yg _) _).trans hj;go_wp2
 go_loopw [6] (fun i wr=>∃(k:Nat) (acc:zU),k<=s.size/\i=zI k/\Lib.IsBuilderF 153 5 w.heap.size w.heap.size (Lib.byteCells acc) wr/\zW w wr/\acc++qgi kd (s.data.toList.drop k)=qgi kd s.data.toList/\acc.length<=6*k) (fun i _=>s.size - (intOf i).toNat)
 case atStart=>exact⟨0,[],yH _,rfl,Lib.IsBuilderF.of (Or.inr Hi),hc,rfl,by simp⟩
 case round=>
  obtain⟨k,acc,hk,rfl,hI,hb,Hb,hl⟩:=hrel;have HA:Hid (acc++qgi kd (s.data.toList.drop k)=qgi kd s.data.toList):=Hb;clear Hb;have hz:=hb.size;have Hf:=ht.kept hb hB;by_cases Hc:k<s.size
  ·obtain⟨f,t,hg⟩:∃f t,qey kd (s.data.toList.drop k)=(f,t):=⟨_,_,rfl⟩
   have HS:Hid (qey kd (s.data.toList.drop k)=(f,t)):=hg;clear hg;go_wp2_with fail
   refine(q4g kd s k f t _ Hf HS.out).mono ?_;rintro e w2 ⟨rfl,b2⟩;have he:=qv1 hI b2;have ha:=hb.trans (b2.mono hz);have He:=ha.size;have hf:=ht.kept ha hB;clear hI Hf hb b2
   match f,HS with
   |c::f,HS=>
     obtain⟨e1,e2,e3⟩:=zc8 kd HK.out _ _ _ HS.out (by simp);have E1:Hid (acc++(t++qgi kd ((s.data.toList.drop k).drop (c::f).length))=qgi kd s.data.toList):=by show _=_;rw[<-e1];exact HA.out
     rw[yM,q84]at e2;clear e1;simp only[yK]at e2 e3;have Hg:(ByteArray.mk t.toArray).size=t.length:=rfl;go_wp2_with fail
     refine(Builder_WriteString_k w.heap.size w.heap.size _ ⟨t.toArray⟩ _ he (by rw[Lib.byteCells_length,Hg];omega) He).mono ?_;rintro e w3 ⟨rfl,h3,b3,_⟩;clear Hg;go_wp2_with fail
     go_roundw
     case rel=>
      refine⟨k+(f.length+1),acc++t,by omega,by go_num,?_,ha.trans b3,?_,by rw[yJ];omega⟩
      ·rw[Lib.byteCells_append];exact Or.inr h3
      ·rw[yq,<-E1.out,yD];rfl
     case measure=>simp[intOf];omega
   |[],HS=>
     have Hj:Hid (qey kd (s[k]::s.data.toList.drop (k+1))=([],t)):=by show _=_;rw[<-qj6 s k Hc];exact HS.out
     have E1:Hid (acc++((if qee kd s[k]=true then qhk kd s[k]else[s[k]])++qgi kd (s.data.toList.drop (k+1)))=qgi kd s.data.toList):=by
      show _=_;rw[<-zc9 kd HK.out _ _ _ Hj.out,<-qj6 s k Hc];exact HA.out
     by_cases Ha:qee kd s[k]=true
     ·have E2:Hid (acc++(qhk kd s[k]++qgi kd (s.data.toList.drop (k+1)))=qgi kd s.data.toList):=by
       show _=_;rw[<-E1.out,if_pos Ha]
      have hi:kd=3\/kd=4\/kd=5:=by
       rcases HK.out with rfl|h|h|h
       ·rw[qyy]at Ha;cases Ha
       ·exact .inl h
       ·exact .inr (.inl h)
       ·exact .inr (.inr h)
      have Hk:Hid (kd=3\/kd=4\/kd=5):=hi;have Hl:=q6g kd s[k];clear hi;go_wp2_with fail
      refine cm (qq1 kd HK.out s[k] _ hf) ?_;go_wp2_with fail
      refine(qt4 kd Hk.out w.heap.size w.heap.size acc s[k] _ hf hB he (by omega) He).mono ?_;rintro e w3 ⟨rfl,h3,b3⟩;go_wp2_with fail
      go_roundw
      case rel=>
       refine⟨k+1,acc++qhk kd s[k],by omega,by go_num,h3,ha.trans b3,?_,by rw[yJ];omega⟩;rw[yq];exact E2.out
      case measure=>simp[intOf];omega
     ·have Ha:qee kd s[k]=false:=ye.2 Ha
      have E2:Hid (acc++([s[k]]++qgi kd (s.data.toList.drop (k+1)))=qgi kd s.data.toList):=by
       show _=_;rw[<-E1.out,if_neg (by simp[Ha])]
      go_wp2_with fail
      refine cm (qq1 kd HK.out s[k] _ hf) ?_;go_wp2_with fail
      refine(Builder_WriteByte_k w.heap.size w.heap.size _ s[k].toNat _ he (by rw[Lib.byteCells_length];omega) He).mono ?_;rintro e w3 ⟨rfl,h3,b3,_⟩;go_wp2_with fail
      go_roundw
      case rel=>
       refine⟨k+1,acc++[s[k]],by omega,by go_num,?_,ha.trans b3,?_,by simp;omega⟩
       ·rw[qkb];exact Or.inr h3
       ·rw[yq];exact E2.out
      case measure=>simp[intOf];omega
  ·have e0:Hid (acc=qgi kd s.data.toList):=by
    have:=HA.out;rw[qvt s k Hc,zf6,yw]at this;exact this
   go_wp2_with fail
   refine(Builder_String_any_k w.heap.size w.heap.size acc _ hI (by omega)).mono ?_;rintro e W2 ⟨rfl,_,b2,_⟩;go_wp2
   go_ret
   exact⟨qcl (by rw[e0.out]),hb.trans b2⟩
theorem q9p(c:zU)(w:World)(ht:Tabs w)(hc:c.length<=30000000) :
  zC 98 #[zV c] w (zR (zV (qf3 c)) w):=by
 have ha:(ByteArray.mk c.toArray).size=c.length:=rfl;have hB:=ht.lt;by_cases h0:qb2 c=0
 ·have HV:Hid (qf3 c=qgi 3 c):=q56 c h0
  have HE:Hid (qej c=-1):=qf7 c h0;go_enter func98,ntmps98
  go_wp2_with fail
  refine cm (qiv ⟨c.toArray⟩ _ (by rw[ha];omega)) ?_;rw[show(ByteArray.mk c.toArray).data.toList=c from rfl,HE.out];go_wp2_with fail
  refine(qpi 3 (.inr (.inl rfl)) ⟨c.toArray⟩ _ ht (by rw[ha];omega)).mono ?_;rintro e w2 ⟨rfl,hb⟩;go_wp2_with fail
  go_ret
  exact⟨qcl (by rw[HV.out]),hb⟩
 ·obtain⟨k,hk⟩:∃k,qb2 c=k+1:=⟨qb2 c - 1,by omega⟩
  have hf:k+1<=c.length:=hk▸qso c;have HE:Hid (qej c=(k:Int)):=qk8 c k hk;have e1:=qui c k;by_cases ho:q5f (qfc (c.take k))=true
  ·have HV:Hid (qf3 c=c.take (k+1)++qgi 3 (c.drop (k+1))):=q55 c k hk ho
   have HO:Hid (q29 (c.take k)=true):=ho;clear hk h0 ho;go_enter func98,ntmps98
   go_wp2_with fail
   refine cm (qiv ⟨c.toArray⟩ _ (by rw[ha];omega)) ?_;rw[show(ByteArray.mk c.toArray).data.toList=c from rfl,HE.out];go_wp2_with fail
   refine(qtb ⟨(c.take k).toArray⟩ _ (by show(c.take k).toArray.size<=_;simp;omega) ht).mono ?_;rintro e w1 ⟨rfl,Ha⟩;rw[show(ByteArray.mk (c.take k).toArray).data.toList=c.take k from rfl,HO.out];have Hb:=Ha.size;have Hc:=ht.kept Ha hB;go_wp2_with fail
   have e2:∀w,(Instr.slice 9 (zV c) none (some (zI ((k:Int)+1))) none).run prog w=.ok (zV (c.take (k+1))) w:=by
    intro w;rw[run_slice_string_h (P:=prog) w 9 ⟨c.toArray⟩ underlying9 .i64 ((k:Int)+1) (by omega) (by rw[ha];omega),<-qui c (k+1)];rfl
   have e3:∀w,(Instr.slice 9 (zV c) (some (zI ((k:Int)+1))) none none).run prog w=.ok (zV (c.drop (k+1))) w:=by
    intro w;rw[run_slice_string_l (P:=prog) w 9 ⟨c.toArray⟩ underlying9 .i64 ((k:Int)+1) (by omega) (by rw[ha];omega),<-zdc c (k+1)];rfl
   have hl:(qgi 3 (c.drop (k+1))).length<=400000000:=by
    have:=qhe 6 qnq (c.drop (k+1));rw[yM]at this;rw[enc3];unfold qjy;omega
   have he:(k:Int)+1<=(c.length:Int):=by omega
   have He:0<=(k:Int)+1:=by omega
   have hw:IntKind.i64.wrap ((k:Int)+1)=(k:Int)+1:=by rw[IntKind.wrap_i64];omega
   go_region_with (go_at_call 100;refine(qpi 3 (.inr (.inl rfl)) ⟨(c.drop (k+1)).toArray⟩ _ (by exact Hc) (by show(c.drop (k+1)).toArray.size<=_;simp;omega)).mono ?_;rintro e w2 ⟨rfl,hb⟩)
   go_wp2
   go_ret
   exact⟨qcl (by rw[HV.out,<-zhq]),Ha.drew.trans (hb.mono Hb)⟩
  ·have ho:q5f (qfc (c.take k))=false:=ye.2 ho
   have HV:Hid (qf3 c=qv3):=qvi c k hk ho;have HO:Hid (q29 (c.take k)=false):=ho;clear hk h0 ho;go_enter func98,ntmps98
   go_wp2_with fail
   refine cm (qiv ⟨c.toArray⟩ _ (by rw[ha];omega)) ?_;rw[show(ByteArray.mk c.toArray).data.toList=c from rfl,HE.out];go_wp2_with fail
   refine(qtb ⟨(c.take k).toArray⟩ _ (by show(c.take k).toArray.size<=_;simp;omega) ht).mono ?_;rintro e w1 ⟨rfl,Ha⟩;rw[show(ByteArray.mk (c.take k).toArray).data.toList=c.take k from rfl,HO.out];go_wp2_with fail
   go_ret
   exact⟨qcl (by rw[HV.out];rfl),Ha⟩
theorem ze5(c:zU):(ByteArray.mk c.toArray).size=c.length:=rfl
theorem qmc(kd:Int)(hk:kd=1\/kd=3\/kd=4\/kd=5)(s:zT)(w:World)(ht:Tabs w)(hs:s.size<=10000000) :
  zC 64 #[zI kd,.string s] w (zR (.tuple #[zV (qgi kd (qd3 s.data.toList)),zI 0]) w):=by
 have hc:=qtq s.data.toList 10000000 hs;have hB:=ht.lt;generalize Ha:qd3 s.data.toList=c at hc;have HC:Hid (qd3 s.data.toList=c):=Ha;have hb:=ze5 c;clear Ha;rcases hk with rfl|rfl|rfl|rfl
 all_goals
  go_enter func64,ntmps64
  go_wp2_with fail
  refine(qy2 s _ (by omega)).mono ?_;rintro e w1 ⟨rfl,ha⟩;rw[HC.out];have Hb:=ha.size;have Hc:=ht.kept ha hB;go_wp2_with fail
  refine(qpi _ (by omega) ⟨c.toArray⟩ _ Hc (by rw[hb];omega)).mono ?_;rintro e w2 ⟨rfl,he⟩;go_wp2_with fail
  go_ret2
  exact⟨rfl,ha.trans (he.mono Hb)⟩
theorem qzx(s:zT)(w:World)(ht:Tabs w)(hs:s.size<=10000000) :
  zC 64 #[zI 2,.string s] w (zR (.tuple #[zV (qf3 (qd3 s.data.toList)),zI 0]) w):=by
 have hc:=qtq s.data.toList 10000000 hs;have hB:=ht.lt;generalize Ha:qd3 s.data.toList=c at hc;have HC:Hid (qd3 s.data.toList=c):=Ha;clear Ha;go_enter func64,ntmps64
 go_wp2_with fail
 refine(qy2 s _ (by omega)).mono ?_;rintro e w1 ⟨rfl,ha⟩;rw[HC.out];have hb:=ha.size;have Hb:=ht.kept ha hB;go_wp2_with fail
 refine(q9p c _ Hb (by omega)).mono ?_;rintro e w2 ⟨rfl,Hc⟩;go_wp2_with fail
 go_ret2
 exact⟨rfl,ha.trans (Hc.mono hb)⟩
theorem qzw(kd:Int)(s:zT)(w:World)(h:kd<1\/5<kd) :
  zC 64 #[zI kd,.string s] w (zR (.tuple #[zS,zI 1]) w):=by
 have h1:(kd==1)=false:=yf.2 (by omega);have h2:(kd==2)=false:=yf.2 (by omega);have h3:(kd==3)=false:=yf.2 (by omega);have h4:(kd==4)=false:=yf.2 (by omega);have h5:(kd==5)=false:=yf.2 (by omega);go_enter func64,ntmps64
 go_wp2_with fail
 go_ret2
 exact⟨rfl,xM _ _⟩
theorem q66(kd:Int)(s:zT)(w:World)(ht:Tabs w)(hs:s.size<=10000000) :
  zC 64 #[zI kd,.string s] w (zR (.tuple #[zV (qgn kd s.data.toList),zI (qor kd)]) w):=by
 unfold qgn qor;by_cases h1:kd=1
 ·subst h1;exact qmc 1 (.inl rfl) s w ht hs
 by_cases h3:kd=3
 ·subst h3;exact qmc 3 (.inr (.inl rfl)) s w ht hs
 by_cases h2:kd=2
 ·subst h2;exact qzx s w ht hs
 by_cases h4:kd=4
 ·subst h4;exact qmc 4 (.inr (.inr (.inl rfl))) s w ht hs
 by_cases h5:kd=5
 ·subst h5;exact qmc 5 (.inr (.inr (.inr rfl))) s w ht hs
 rw[if_neg h1,if_neg h3,if_neg h2,if_neg h4,if_neg h5,if_neg (by omega)];exact qzw kd s w (by omega)
end Go.Proofs.YtfkhljmiehdgmaaGreatDoor
