/-
  Steps of the proof.
-/
import Derived.Test.YtfkhljmiehdgmaaGreatDoorCuBI
import Derived.Test.YtfkhljmiehdgmaaGreatDoorCuAQ
set_option maxRecDepth 100000
set_option maxHeartbeats 40000000
namespace Go.Proofs.YtfkhljmiehdgmaaGreatDoor
open Go.RowKit Go.Proofs.Tryz Pl
section
open Go Go.Lib Go.Shelf
variable{w:World}{g B:Nat}{vv dv:Value}{e:Ev}
theorem qwa(ao:Option Addr)(n cap:Nat)(w:World):zC 59 #[.slice ao n cap] w (zR (.agg #[.slice ao n cap,zI 0]) w):=by
 go_enter func59,ntmps59
 go_wp2
 exact qlt (g:=w.heap.size) results59 rfl rfl (xF w _) rfl ⟨rfl,zB _⟩
theorem qx3{a0 a1 a2 a3 a4 a5 a6 a7:Value}{T:TypeId}(h:w.heap[g]?=zK #[a0,a1,a2,a3,a4,a5,a6,a7] T)(v0 v1 v2 v3 v4 v5 v6 v7:Value):((((((((w.setCell (zO g 0) v0).setCell (zO g 1) v1).setCell (zO g 2) v2).setCell (zO g 3) v3).setCell (zO g 4) v4).setCell (zO g 5) v5).setCell (zO g 6) v6).setCell (zO g 7) v7).heap[g]?=zK #[v0,v1,v2,v3,v4,v5,v6,v7] T:=by
 have y:(w.setCell (zO g 0) v0).heap[g]?=zK #[v0,a1,a2,a3,a4,a5,a6,a7] T:=xG _ _ 0 _ _ _ h;have z:((w.setCell (zO g 0) v0).setCell (zO g 1) v1).heap[g]?=zK #[v0,v1,a2,a3,a4,a5,a6,a7] T:=xG _ _ 1 _ _ _ y;have D:(((w.setCell (zO g 0) v0).setCell (zO g 1) v1).setCell (zO g 2) v2).heap[g]?=zK #[v0,v1,v2,a3,a4,a5,a6,a7] T:=xG _ _ 2 _ _ _ z;have I:((((w.setCell (zO g 0) v0).setCell (zO g 1) v1).setCell (zO g 2) v2).setCell (zO g 3) v3).heap[g]?=zK #[v0,v1,v2,v3,a4,a5,a6,a7] T:=xG _ _ 3 _ _ _ D;have J:(((((w.setCell (zO g 0) v0).setCell (zO g 1) v1).setCell (zO g 2) v2).setCell (zO g 3) v3).setCell (zO g 4) v4).heap[g]?=zK #[v0,v1,v2,v3,v4,a5,a6,a7] T:=xG _ _ 4 _ _ _ I;have O:((((((w.setCell (zO g 0) v0).setCell (zO g 1) v1).setCell (zO g 2) v2).setCell (zO g 3) v3).setCell (zO g 4) v4).setCell (zO g 5) v5).heap[g]?=zK #[v0,v1,v2,v3,v4,v5,a6,a7] T:=xG _ _ 5 _ _ _ J;have U:(((((((w.setCell (zO g 0) v0).setCell (zO g 1) v1).setCell (zO g 2) v2).setCell (zO g 3) v3).setCell (zO g 4) v4).setCell (zO g 5) v5).setCell (zO g 6) v6).heap[g]?=zK #[v0,v1,v2,v3,v4,v5,v6,a7] T:=xG _ _ 6 _ _ _ O;have V:((((((((w.setCell (zO g 0) v0).setCell (zO g 1) v1).setCell (zO g 2) v2).setCell (zO g 3) v3).setCell (zO g 4) v4).setCell (zO g 5) v5).setCell (zO g 6) v6).setCell (zO g 7) v7).heap[g]?=zK #[v0,v1,v2,v3,v4,v5,v6,v7] T:=xG _ _ 7 _ _ _ U;exact V
theorem qj0{k:Nat}(y:k≠g)(v0 v1 v2 v3 v4 v5 v6 v7:Value):((((((((w.setCell (zO g 0) v0).setCell (zO g 1) v1).setCell (zO g 2) v2).setCell (zO g 3) v3).setCell (zO g 4) v4).setCell (zO g 5) v5).setCell (zO g 6) v6).setCell (zO g 7) v7).heap[k]?=w.heap[k]?:=by
 have h:∀(x:World) (j:Nat) (v:Value),(x.setCell (zO g j) v).heap[k]?=x.heap[k]?:=fun x j v=>xK _ _ _ _ y;rw[h,h,h,h,h,h,h,h]
theorem qk0{a:World}(h:Below B a w)(y:B<=g)(v0 v1 v2 v3 v4 v5 v6 v7:Value):Below B a ((((((((w.setCell (zO g 0) v0).setCell (zO g 1) v1).setCell (zO g 2) v2).setCell (zO g 3) v3).setCell (zO g 4) v4).setCell (zO g 5) v5).setCell (zO g 6) v6).setCell (zO g 7) v7):=
 (((((((h.setCell (p:=zO g 0) y _).setCell (p:=zO g 1) y _).setCell (p:=zO g 2) y _).setCell (p:=zO g 3) y _).setCell (p:=zO g 4) y _).setCell (p:=zO g 5) y _).setCell (p:=zO g 6) y _).setCell (p:=zO g 7) y _
theorem qt5{b:Nat}{x:World}(z:B<=g)(D:B<=b)(I:x.heap[g]?=zK #[vv,zI e.depth,zI e.room,zF b 1 1,zI 0,.pointer none,zN,zN] 155)(y:x.heap[b]?=zK #[dv,zI 0] 147) :
  WrAt x B g vv dv e [some 0] ⟨[],[],0⟩:=by
 refine⟨zF b 1 1,zN,.pointer none,zN,⟨z,I,⟨rfl,.inl ⟨rfl,rfl⟩⟩,.inl rfl,fun _=>rfl⟩,⟨rfl,.inr ⟨b,1,_,rfl,D,y,yg _,by unfold maxLen;omega,rfl,rfl⟩⟩,⟨rfl,.inl ⟨rfl,rfl⟩⟩⟩
abbrev wr0:Obj:=.cells #[zN,zI 0,zI 0,zN,zI 0,.pointer none,zN,zN] 155
theorem zb3{w0:World}{M:Nat}(hE:Evm w0 vv dv e M)(Z:0<e.vis.length)(r:Wt×Int)(hr:e.page=r) :
  zC 36 #[.agg #[vv],dv,zI e.depth,zI e.room] w0 fun ed w'=>∃ha,ed=.returned (.tuple #[bs r.1.out,ha,zI r.2])/\(r.2≠0->ha=zN)/\(r.2=0->w'.ownsRow w0.heap.size 55 3 ha r.1.holes.length (qhd r.1.holes))/\zW w0 w':=by
 obtain⟨bv,vcap,rfl,_,_⟩:=id hE.vis;obtain⟨da,dcap,rfl,_,_⟩:=id hE.ds;obtain⟨w1,Ha⟩:∃w1,w0.alloc (.cells #[zF bv e.vis.length vcap] 77)=w1:=⟨_,rfl⟩;have V:zW w0 w1:=by rw[<-Ha];exact zB _
 have k0:w1.cell? (zO w0.heap.size 0)=some (zF bv e.vis.length vcap):=by rw[<-Ha];exact qaa (xF w0 _) 0 _ rfl
 have hf:w0.heap.size<w1.heap.size:=qka k0;obtain⟨s,hs⟩:∃s,w0.heap.size=s:=⟨_,rfl⟩;obtain⟨hT,HT⟩:∃R,Hid (R=fun(g:Nat) (w2:World)=>zC 60 #[zP g,zI 0,zI 0] w2 fun ed w3=>ed=.returned (zI r.2)/\Hid ((∃K',WrAt w3 w0.heap.size g (zF bv e.vis.length vcap) (.slice da e.D.length dcap) e K' r.1)/\zW w0 w3)):=⟨_,rfl⟩;have HC:∀g w2,zW w0 w2->WrAt w2 w0.heap.size g (zF bv e.vis.length vcap) (.slice da e.D.length dcap) e [some 0] ⟨[],[],0⟩->hT g w2:=fun g w2 hb hw=>by
  rw[HT.out];have Hg:Wst w0 g (zF bv e.vis.length vcap) (.slice da e.D.length dcap) e M [some 0] ⟨[],[],0⟩ w2:=⟨hb,hw,⟨by decide,yH _,yH _,by rcases Int.lt_or_le e.room 0 with h|h;exact .inl h;exact .inr h⟩,by simp⟩;refine(qwc hE (q8g hE 5002) 0 Z 0 [some 0] ⟨[],[],0⟩ w2 (by decide) (by decide) Hg (by decide) (by decide)).mono ?_;intro ed w3 hO;have hi:e.run 5002 0 0 (e.parts 0).length 0 [some 0] ⟨[],[],0⟩=r:=hr;rw[hi]at hO;obtain⟨h1,⟨K',h2,_⟩,h3⟩:=hO;exact⟨h1,⟨K',h2⟩,hb.trans h3.below⟩
 go_enter func36,ntmps36
 go_wp2
 refine Code.wp_mono (Q:=fun ex a' w'=>ex=.normal/\∃g bb,a'={ tmps:=#[.agg #[zF bv e.vis.length vcap],.slice da e.D.length dcap,zI e.depth,zI e.room,zP s,undef,undef,undef,zS,zN,zI 0,zP g,undef,zP s,zF bv e.vis.length vcap,zI e.depth,zI e.room,.slice da e.D.length dcap,.agg #[.slice da e.D.length dcap,zI 0],zF bb 1 1,.agg #[zF bv e.vis.length vcap,zI e.depth,zI e.room,zF bb 1 1,zI 0,.pointer none,zN,zN],undef,undef,undef,undef,undef,undef,undef,undef,undef,undef],defers:=[] }/\WrAt w' w0.heap.size g (zF bv e.vis.length vcap) (.slice da e.D.length dcap) e [some 0] ⟨[],[],0⟩/\zW w0 w') (fun ex a' w2 hm=>?rest) ?reg
 case reg=>
  have Hf:Enters prog 59:=enters_of func59 (by kernel_rfl) rfl;have Hb:zW w1 w1.drew:=(xL _ _).drew;rw[hs]at k0;have Hi:s<w1.heap.size:=by rw[<-hs];exact hf
  have I:∀x,zW w1 x->x.cell? (zO s 0)=some (zF bv e.vis.length vcap):=fun x hx=>(hx.cell (p:=zO s 0) Hi).trans k0;refine wp_region_held_drew (S:=fun x=>x.cell? (zO s 0)=some (zF bv e.vis.length vcap)) (by kernel_rfl) k0 (fun hS=>?_);clear HC HT Z hr;refine qbf (i:=0) (zP s) rfl (by kernel_rfl) (by kernel_rfl) (by kernel_rfl) (fun _ _ _ h=>by cases h.1) rfl (fun X hx=>?_) hS ?_
  ·have x1:X.cell? (zO s 0)=some (zF bv e.vis.length vcap):=hx
   go_simp
  refine qbf (i:=1) (zF bv e.vis.length vcap) rfl (by kernel_rfl) (by kernel_rfl) (by kernel_rfl) (fun _ _ _ h=>by cases h.1) rfl (fun X hx=>?_) hS ?_
  ·have x1:X.cell? (zO s 0)=some (zF bv e.vis.length vcap):=hx
   go_simp
  refine qbf (i:=2) (zI e.depth) rfl (by kernel_rfl) (by kernel_rfl) (by kernel_rfl) (fun _ _ _ h=>by cases h.1) rfl (fun X hx=>?_) hS ?_
  ·have x1:X.cell? (zO s 0)=some (zF bv e.vis.length vcap):=hx
   go_simp
  refine qbf (i:=3) (zI e.room) rfl (by kernel_rfl) (by kernel_rfl) (by kernel_rfl) (fun _ _ _ h=>by cases h.1) rfl (fun X hx=>?_) hS ?_
  ·have x1:X.cell? (zO s 0)=some (zF bv e.vis.length vcap):=hx
   go_simp
  refine qbf (i:=4) (.slice da e.D.length dcap) rfl (by kernel_rfl) (by kernel_rfl) (by kernel_rfl) (fun _ _ _ h=>by cases h.1) rfl (fun X hx=>?_) hS ?_
  ·have x1:X.cell? (zO s 0)=some (zF bv e.vis.length vcap):=hx
   go_simp
  refine wpAnyH_ready (rs:=[5,8]) (by kernel_rfl) (by simp) (AllReadyH.cons rfl (fun K' z=>?_) (AllReadyH.cons rfl (fun K' z=>?_) AllReadyH.nil))
  ·skip
   refine qji rfl 59 #[.tmp 17] #[44] rfl Hf (fun v' x=>v'=.agg #[.slice da e.D.length dcap,zI 0]/\zW w1 x) #[.slice da e.D.length dcap] (by simp[Act.eval,Act.put]) ((qwa da e.D.length dcap w1.drew).mono ?_) ?_
   ·rintro e2 x' ⟨rfl,hx⟩
    exact⟨_,rfl,rfl,Hb.trans hx⟩
   rintro _ x ⟨rfl,hx⟩;refine z.out _ _ (I x hx) (fun hS=>?_);clear z K';have O:=hx.size;refine wpAnyH_ready (rs:=[6,8]) (by kernel_rfl) (by simp) (AllReadyH.cons rfl (fun K' z=>?_) (AllReadyH.cons rfl (fun K' z=>?_) AllReadyH.nil))
   ·go_simp
    refine z.out _ _ (I _ (hx.alloc O (.cells #[.slice da e.D.length dcap,zI 0] 147))) (fun hS=>?_);clear z K';refine qbf (i:=7) (.agg #[zF bv e.vis.length vcap,zI e.depth,zI e.room,zF x.heap.size 1 1,zI 0,.pointer none,zN,zN]) rfl (by kernel_rfl) (by kernel_rfl) (by kernel_rfl) (fun _ _ _ h=>by cases h.1) rfl (fun X hx=>?_) hS ?_
    ·have x1:X.cell? (zO s 0)=some (zF bv e.vis.length vcap):=hx
     go_simp
    refine rd (r:=8) (by kernel_rfl) rfl (fun K' z=>?_);go_simp
    refine z.out _ _ (I _ ((hx.alloc O _).alloc (by rw[qcf];omega) _)) (fun hS=>?_);clear z K';refine rd (r:=9) (by kernel_rfl) rfl (fun K' z=>?_);go_simp
    have J:=(hx.alloc O (.cells #[.slice da e.D.length dcap,zI 0] 147)).alloc (by rw[qcf];omega) (.cells #[zF bv e.vis.length vcap,zI e.depth,zI e.room,zF x.heap.size 1 1,zI 0,.pointer none,zN,zN] 155);refine z.out _ _ (I _ J) (fun hS=>?_);refine wpAnyH_done (by kernel_rfl) ?_ _;exact⟨rfl,_,_,rfl,qt5 (by omega) (by omega) (q0t x _ _) ((((xL _ (x.alloc _)).alloc (yg _) _).block _ (by rw[qcf];omega)).trans (xF x _)),V.trans (J.mono (by omega))⟩
   ·go_simp
    refine z.out _ _ (I _ (hx.alloc O wr0)) (fun hS=>?_);clear z K';refine rd (r:=6) (by kernel_rfl) rfl (fun K' z=>?_);go_simp
    refine z.out _ _ (I _ ((hx.alloc O _).alloc (by rw[qcf];omega) _)) (fun hS=>?_);clear z K';refine qbf (i:=7) (.agg #[zF bv e.vis.length vcap,zI e.depth,zI e.room,zF (x.heap.size+1) 1 1,zI 0,.pointer none,zN,zN]) rfl (by kernel_rfl) (by kernel_rfl) (by kernel_rfl) (fun _ _ _ h=>by cases h.1) rfl (fun X hx=>?_) hS ?_
    ·have x1:X.cell? (zO s 0)=some (zF bv e.vis.length vcap):=hx
     go_simp
    have y:((x.alloc wr0).alloc (.cells #[.slice da e.D.length dcap,zI 0] 147)).heap[x.heap.size]?=some wr0:=(((xL _ (x.alloc _)).alloc (yg _) _).block _ (by rw[qcf];omega)).trans (xF x _);have T:((x.alloc wr0).alloc (.cells #[.slice da e.D.length dcap,zI 0] 147)).heap[x.heap.size+1]?=zK #[.slice da e.D.length dcap,zI 0] 147:=q0t x _ _;have J:=(hx.alloc O wr0).alloc (by rw[qcf];omega) (.cells #[.slice da e.D.length dcap,zI 0] 147);have U:w1.heap.size<=x.heap.size:=O;have hc:x.heap.size+1≠x.heap.size:=by omega
    obtain⟨Y,hY⟩:∃Y,(x.alloc wr0).alloc (.cells #[.slice da e.D.length dcap,zI 0] 147)=Y:=⟨_,rfl⟩;rw[hY]at y T J |-;have z0:=qaa y 0 _ rfl;have y0:(Y).frozen? (zO x.heap.size 0)=false:=by simp[World.frozen?,y]
    have z1:=qaa y 1 _ rfl;have y1:(Y).frozen? (zO x.heap.size 1)=false:=by simp[World.frozen?,y]
    have z2:=qaa y 2 _ rfl;have y2:(Y).frozen? (zO x.heap.size 2)=false:=by simp[World.frozen?,y]
    have z3:=qaa y 3 _ rfl;have y3:(Y).frozen? (zO x.heap.size 3)=false:=by simp[World.frozen?,y]
    have z4:=qaa y 4 _ rfl;have y4:(Y).frozen? (zO x.heap.size 4)=false:=by simp[World.frozen?,y]
    have z5:=qaa y 5 _ rfl;have y5:(Y).frozen? (zO x.heap.size 5)=false:=by simp[World.frozen?,y]
    have z6:=qaa y 6 _ rfl;have y6:(Y).frozen? (zO x.heap.size 6)=false:=by simp[World.frozen?,y]
    have z7:=qaa y 7 _ rfl;have y7:(Y).frozen? (zO x.heap.size 7)=false:=by simp[World.frozen?,y]
    refine rd (r:=9) (by kernel_rfl) rfl (fun K' z=>?_);go_simp
    refine z.out _ _ (I _ (qk0 J U _ _ _ _ _ _ _ _)) (fun hS=>?_);refine wpAnyH_done (by kernel_rfl) ?_ _;exact⟨rfl,_,_,rfl,qt5 (by omega) (by omega) (qx3 y _ _ _ _ _ _ _ _) ((qj0 hc _ _ _ _ _ _ _ _).trans T),V.trans ((qk0 J U _ _ _ _ _ _ _ _).mono (by omega))⟩
  ·go_simp
   refine z.out _ _ (I _ (Hb.alloc (yg _) wr0)) (fun hS=>?_);clear z K';refine rd (r:=5) (by kernel_rfl) rfl (fun K' z=>?_);refine qji rfl 59 #[.tmp 17] #[44] rfl Hf (fun v' x=>v'=.agg #[.slice da e.D.length dcap,zI 0]/\zW w1 x/\x.heap[w1.heap.size]?=some wr0/\w1.heap.size<x.heap.size) #[.slice da e.D.length dcap] (by simp[Act.eval]) ((qwa da e.D.length dcap (w1.alloc wr0).drew).mono ?_) ?_
   ·rintro e2 x' ⟨rfl,hx⟩
    have hq:w1.heap.size<(w1.alloc wr0).drew.heap.size:=by show _<(w1.alloc _).heap.size;rw[qcf];omega
    exact⟨_,rfl,rfl,(Hb.alloc (yg _) wr0).trans (hx.mono (yj hq)),(hx.block _ hq).trans (xF w1 _),yi hq hx.size⟩
   rintro _ x ⟨rfl,hx,hj,Hj⟩;refine z.out _ _ (I x hx) (fun hS=>?_);clear z K';refine rd (r:=6) (by kernel_rfl) rfl (fun K' z=>?_);go_simp
   refine z.out _ _ (I _ (hx.alloc hx.size (.cells #[.slice da e.D.length dcap,zI 0] 147))) (fun hS=>?_);clear z K';refine qbf (i:=7) (.agg #[zF bv e.vis.length vcap,zI e.depth,zI e.room,zF x.heap.size 1 1,zI 0,.pointer none,zN,zN]) rfl (by kernel_rfl) (by kernel_rfl) (by kernel_rfl) (fun _ _ _ h=>by cases h.1) rfl (fun X hx=>?_) hS ?_
   ·have x1:X.cell? (zO s 0)=some (zF bv e.vis.length vcap):=hx
    go_simp
   have y:(x.alloc (.cells #[.slice da e.D.length dcap,zI 0] 147)).heap[w1.heap.size]?=some wr0:=(((xL _ x).alloc (yg _) _).block _ Hj).trans hj;have T:(x.alloc (.cells #[.slice da e.D.length dcap,zI 0] 147)).heap[x.heap.size]?=zK #[.slice da e.D.length dcap,zI 0] 147:=xF x _;have J:=hx.alloc hx.size (.cells #[.slice da e.D.length dcap,zI 0] 147);have U:w1.heap.size<=w1.heap.size:=yg _;have hc:x.heap.size≠w1.heap.size:=by omega
   obtain⟨Y,hY⟩:∃Y,x.alloc (.cells #[.slice da e.D.length dcap,zI 0] 147)=Y:=⟨_,rfl⟩;rw[hY]at y T J |-;have z0:=qaa y 0 _ rfl;have y0:(Y).frozen? (zO w1.heap.size 0)=false:=by simp[World.frozen?,y]
   have z1:=qaa y 1 _ rfl;have y1:(Y).frozen? (zO w1.heap.size 1)=false:=by simp[World.frozen?,y]
   have z2:=qaa y 2 _ rfl;have y2:(Y).frozen? (zO w1.heap.size 2)=false:=by simp[World.frozen?,y]
   have z3:=qaa y 3 _ rfl;have y3:(Y).frozen? (zO w1.heap.size 3)=false:=by simp[World.frozen?,y]
   have z4:=qaa y 4 _ rfl;have y4:(Y).frozen? (zO w1.heap.size 4)=false:=by simp[World.frozen?,y]
   have z5:=qaa y 5 _ rfl;have y5:(Y).frozen? (zO w1.heap.size 5)=false:=by simp[World.frozen?,y]
   have z6:=qaa y 6 _ rfl;have y6:(Y).frozen? (zO w1.heap.size 6)=false:=by simp[World.frozen?,y]
   have z7:=qaa y 7 _ rfl;have y7:(Y).frozen? (zO w1.heap.size 7)=false:=by simp[World.frozen?,y]
   refine rd (r:=9) (by kernel_rfl) rfl (fun K' z=>?_);go_simp
   refine z.out _ _ (I _ (qk0 J U _ _ _ _ _ _ _ _)) (fun hS=>?_);refine wpAnyH_done (by kernel_rfl) ?_ _;exact⟨rfl,_,_,rfl,qt5 (by omega) (by omega) (qx3 y _ _ _ _ _ _ _ _) ((qj0 hc _ _ _ _ _ _ _ _).trans T),V.trans ((qk0 J U _ _ _ _ _ _ _ _).mono (by omega))⟩
 case rest=>
  obtain⟨rfl,g,bb,rfl,hw,hg⟩:=hm;have ht:=HC g w2 hg hw;rw[HT.out]at ht;clear HC HT Z hw hg k0 V Ha hf hs;by_cases hz:r.2=0
  ·have Hc:Hid (zC 60 #[zP g,zI 0,zI 0] w2 fun ed w3=>ed=.returned (zI 0)/\Hid (∃ho hn hcap,w3.cell? (zO g 7)=some (.slice ho hn hcap)/\Hid (zC 61 #[.pointer (some (zO g 5))] w3.drew fun ed w4=>ed=.returned (.string ⟨r.1.out.toArray⟩)/\w4.cell? (zO g 7)=some (.slice ho hn hcap)/\Hid (w4.ownsRow w0.heap.size 55 3 (.slice ho hn hcap) r.1.holes.length (qhd r.1.holes)/\zW w0 w4)))):=by
    refine ht.mono ?_;rintro ed w3 ⟨rfl,H3⟩;obtain⟨⟨K',sv,hv,bp,bvv,hq⟩,he⟩:=H3.out;have hk:∃ho hn hcap,hv=.slice ho hn hcap:=by
     rcases hq.ho.2 with⟨h1,_⟩|⟨b,cap,cur,h1,_⟩
     ·exact⟨_,_,_,h1⟩
     ·exact⟨_,_,_,h1⟩
    obtain⟨ho,hn,hcap,rfl⟩:=hk;have c7:=hq.wb.all.2.2.2.2.2.1;refine⟨by rw[hz],ho,hn,hcap,c7,(q2i w3.drew w0.heap.size g _ _ _ _ _ _ _ _ _ hq.wb.drew).mono ?_⟩;rintro ed w4 ⟨rfl,h1,h2,h3⟩;exact⟨rfl,(xP (a:=zO g 7) h3).trans c7,quq (w:=w3.drew) hq.ho (by decide) (show w3.drew.heap[g]?=_ from hq.wb.blk) (by decide) h2,(he.drew).trans h1⟩
   clear ht;go_wp2_with (go_at_call 60;refine xQ Hc.out ?_;rintro ed w3 ⟨rfl,H3⟩)
   obtain⟨ho,hn,hcap,c7,He⟩:=H3.out;have Hk:Enters prog 61:=enters_of func61 (by kernel_rfl) rfl;refine Code.wp_mono (Q:=fun ex a' w'=>ex=.normal/\a'={ tmps:=#[.agg #[zF bv e.vis.length vcap],.slice da e.D.length dcap,zI e.depth,zI e.room,zP s,undef,undef,undef,.string ⟨r.1.out.toArray⟩,.slice ho hn hcap,zI 0,zP g,zI 0,zP s,zF bv e.vis.length vcap,zI e.depth,zI e.room,.slice da e.D.length dcap,.agg #[.slice da e.D.length dcap,zI 0],zF bb 1 1,.agg #[zF bv e.vis.length vcap,zI e.depth,zI e.room,zF bb 1 1,zI 0,.pointer none,zN,zN],zI 0,zI 0,.bool false,undef,undef,undef,.pointer (some (zO g 5)),.string ⟨r.1.out.toArray⟩,.pointer (some (zO g 7)),.slice ho hn hcap],defers:=[] }/\Hid (w'.ownsRow w0.heap.size 55 3 (.slice ho hn hcap) r.1.holes.length (qhd r.1.holes)/\zW w0 w')) (fun ex a' w' hm=>?r2) ?r1
   case r2=>
    obtain⟨rfl,rfl,HX⟩:=hm;go_wp2
    go_ret3
    exact⟨.slice ho hn hcap,by rw[hz];rfl,fun h=>absurd hz h,fun _=>HX.out.1,HX.out.2⟩
   refine wp_region_held_drew (S:=fun x=>x.cell? (zO g 7)=some (.slice ho hn hcap)) (by kernel_rfl) c7 (fun hS=>?_);refine qbf (i:=0) (.pointer (some (zO g 5))) rfl (by kernel_rfl) (by kernel_rfl) (by kernel_rfl) (fun _ _ _ h=>by cases h.1) rfl (fun X hx=>?_) hS ?_
   ·have x1:X.cell? (zO g 7)=some (.slice ho hn hcap):=hx
    go_simp
   refine qbf (i:=2) (.pointer (some (zO g 7))) rfl (by kernel_rfl) (by kernel_rfl) (by kernel_rfl) (fun _ _ _ h=>by cases h.1) rfl (fun X hx=>?_) hS ?_
   ·have x1:X.cell? (zO g 7)=some (.slice ho hn hcap):=hx
    go_simp
   refine qbf (i:=3) (.slice ho hn hcap) rfl (by kernel_rfl) (by kernel_rfl) (by kernel_rfl) (fun _ _ _ h=>by cases h.1) rfl (fun X hx=>?_) hS ?_
   ·have x1:X.cell? (zO g 7)=some (.slice ho hn hcap):=hx
    go_simp
   refine rd (r:=1) (by kernel_rfl) rfl (fun K' z=>?_);refine qji rfl 61 #[.tmp 27] #[153] rfl Hk (fun v' x=>v'=.string ⟨r.1.out.toArray⟩/\x.cell? (zO g 7)=some (.slice ho hn hcap)/\Hid (x.ownsRow w0.heap.size 55 3 (.slice ho hn hcap) r.1.holes.length (qhd r.1.holes)/\zW w0 x)) #[.pointer (some (zO g 5))] (by simp[Act.eval,Act.put]) (He.out.mono ?_) ?_
   ·rintro e2 x' ⟨rfl,h1,h2⟩
    exact⟨_,rfl,rfl,h1,h2⟩
   rintro _ x ⟨rfl,h7,HX⟩;refine z.out _ _ h7 (fun hS=>?_);clear z K';refine qbf (i:=4) (.string ⟨r.1.out.toArray⟩) rfl (by kernel_rfl) (by kernel_rfl) (by kernel_rfl) (fun _ _ _ h=>by cases h.1) rfl (fun X hx=>?_) hS ?_
   ·have x1:X.cell? (zO g 7)=some (.slice ho hn hcap):=hx
    go_simp
   refine qbf (i:=5) (.slice ho hn hcap) rfl (by kernel_rfl) (by kernel_rfl) (by kernel_rfl) (fun _ _ _ h=>by cases h.1) rfl (fun X hx=>?_) hS ?_
   ·have x1:X.cell? (zO g 7)=some (.slice ho hn hcap):=hx
    go_simp
   refine qbf (i:=6) (zI 0) rfl (by kernel_rfl) (by kernel_rfl) (by kernel_rfl) (fun _ _ _ h=>by cases h.1) rfl (fun X hx=>?_) hS ?_
   ·have x1:X.cell? (zO g 7)=some (.slice ho hn hcap):=hx
    go_simp
   refine wpAnyH_done (by kernel_rfl) ?_ _;exact⟨rfl,rfl,HX.out⟩
  ·have Hc:Hid (zC 60 #[zP g,zI 0,zI 0] w2 fun ed w3=>ed=.returned (zI r.2)/\Hid (zC 61 #[.pointer (some (zO g 5))] w3 fun ed w4=>ed=.returned (.string ⟨r.1.out.toArray⟩)/\Hid (zW w0 w4))):=by
    refine ht.mono ?_;rintro ed w3 ⟨rfl,H3⟩;obtain⟨⟨K',sv,hv,bp,bvv,hq⟩,he⟩:=H3.out;refine⟨rfl,(q2i w3 w0.heap.size g _ _ _ _ _ _ _ _ _ hq.wb).mono ?_⟩;rintro ed w4 ⟨rfl,h1,_⟩;exact⟨rfl,he.trans h1⟩
   clear ht
   go_wp2_with (first
    |(go_at_call 61;refine xQ He.out ?_;rintro ed w4 ⟨rfl,HB⟩)
    | (go_at_call 60;refine xQ Hc.out ?_;rintro ed w3 ⟨rfl,He⟩))
   go_ret3
   exact⟨_,rfl,fun _=>rfl,fun h=>absurd h hz,HB.out⟩
end
variable{w wr:World}
structure EnW(w wr:World):Prop where
 below:zW w wr
 tabs:PTabs wr
 ml:qa3 wr
theorem EnW.refl(h:PTabs w)(y:qa3 w):EnW w w:=⟨xL _ _,h,y⟩
theorem EnW.next{w':World}(h:EnW w wr)(y:zW wr w'):EnW w w':=⟨h.below.trans (y.mono h.below.size),h.tabs.kept y,h.ml.below y⟩
theorem EnW.alloc(h:EnW w wr)(o:Obj):EnW w (wr.alloc o):=h.next (zB o)
theorem EnW.drewN(h:EnW w wr)(n:Nat):EnW w (wr.drewN n):=h.next (qat (xL _ _) n)
theorem q53:qnt Ft.none=.agg #[zI 0,zI 0,zS,zI 0]:=rfl
theorem q2c(w:World):PredGrows prog 228 #[] qcm w:=fun W x y _=>q1h x W y
theorem q1q(s:zT)(w:World)(z:s.size<=100000) :
  zC 227 #[.string s,.func (.func 228) #[] #[]] w fun e w'=>∃A,e=.returned (zF A (Lib.goFieldsP qcm s).length (Lib.goFieldsP qcm s).length)/\w.heap.size<=A /\
   (∀j x,(Lib.goFieldsP qcm s)[j]?=some x->w'.cell? (zO A j)=some (.string x))/\zW w w':=by
 refine(strings_FieldsFunc_grows 228 #[] (fun _ _=>by kernel_rfl) qcm s w (by omega) (q2c w)).mono ?_;rintro e w' ⟨A,D,I,J,O⟩;refine⟨A,D,I,fun j x T=>?_,O⟩;have y:j<(Lib.goFieldsP qcm s).length:=(yb.1 T).1;rw[J.cellAt j (by omega),yz,T];rfl
def rdTg:List zU->Tg
 |[a,b]=>if qeb a=true/\qeb b=true then⟨8,0,[],a,b⟩else⟨8,4,[],[],[]⟩
 |_=>⟨8,4,[],[],[]⟩
theorem zbv(l:List zU)(h:l.length≠2):rdTg l=⟨8,4,[],[],[]⟩:=by
 match l,h with
 |[],_=>rfl
 |[_],_=>rfl
 |[_,_],h=>exact absurd rfl h
 |_::_::_::_,_=>rfl
theorem q8b(c:zU):qdc c=if Lib.hasSuffix (c.drop 1) [61]=false then⟨8,4,[],[],[]⟩else rdTg (qfy (Lib.trimSuffix (c.drop 1) [61])):=rfl
theorem qr4(s:zT)(w:World)(I:zT)(b:Bool)(F:List zT)(r:Tg)(Y:s.size≠0)
  (Z:∀w,zC 226 #[.string (s.extract 1 s.size),.string ⟨#[61]⟩] w (zQ (.tuple #[.string I,.bool b]) w))
  (hF:∀w,zC 227 #[.string I,.func (.func 228) #[] #[]] w fun e w'=>∃A,e=.returned (zF A F.length F.length)/\w.heap.size<=A /\
   (∀j x,F[j]?=some x->w'.cell? (zO A j)=some (.string x))/\zW w w')
  (hr:r=if b=false then⟨8,4,[],[],[]⟩else rdTg (F.map (·.data.toList))) :
  zC 194 #[.string s] w (zR (qeh r) w):=by
 have HC:=zH Z;have HF:=zH hF;have HD:=zH q1f;have c1:(1:Int)<=(s.size:Int):=by omega
 clear Z hF Y;by_cases hb:b=false
 ·subst hb
  simp only[if_true]at hr;subst hr;go_enter func194,ntmps194
  go_wp2_with (first
   |(go_at_call 226;refine xQ (HC.out _) ?_;rintro e w' ⟨rfl,rfl⟩)
   | (go_at_call 227;refine xQ (HF.out _) ?_;rintro e w' ⟨A,rfl,hA,hK,hb⟩;have hS:=(qd4 w).next hb;obtain⟨⟨k0,k1,k2,k3,k4⟩,f0,f1,f2,f3,f4⟩:=hS.facts;have HS:=zH hS;clear hb hS hK))
  exact qgr (w0:=w) ⟨8,4,[],[],[]⟩ results194 rfl rfl HS.out rfl
 obtain rfl:b=true:=by simpa using hb
 clear hb;simp only[Bool.true_eq_false,if_false]at hr;by_cases hn:F.length=2
 rotate_left
 ·have D:r=⟨8,4,[],[],[]⟩:=by
   rw[hr];exact zbv _ (by rw[yR];exact hn)
  have T:((F.length:Int) != 2)=true:=by rw[bne_iff_ne];omega
  have J:¬(F.length:Int)=2:=by omega
  clear hr;subst D;generalize F.length=n at HF T J;clear hn;go_enter func194,ntmps194
  go_wp2_with (first
   |(go_at_call 226;refine xQ (HC.out _) ?_;rintro e w' ⟨rfl,rfl⟩)
   | (go_at_call 227;refine xQ (HF.out _) ?_;rintro e w' ⟨A,rfl,hA,hK,hb⟩;have hS:=(qd4 w).next hb;obtain⟨⟨k0,k1,k2,k3,k4⟩,f0,f1,f2,f3,f4⟩:=hS.facts;have HS:=zH hS;clear hb hS hK))
  exact qgr (w0:=w) ⟨8,4,[],[],[]⟩ results194 rfl rfl HS.out rfl
 obtain⟨x,y,rfl⟩:∃x y,F=[x,y]:=by
  match F,hn with
  |[x,y],_=>exact⟨x,y,rfl⟩
 simp only[List.map_cons,List.map_nil,rdTg]at hr
 have O:Hid (∀w,zC 227 #[.string I,.func (.func 228) #[] #[]] w fun e w'=>∃A,e=.returned (zF A 2 2)/\w.heap.size<=A /\
   (w'.cell? (zO A 0)=some (.string x)/\w'.cell? (zO A 1)=some (.string y))/\zW w w'):=fun w=>(HF.out w).mono (by
  rintro e w' ⟨A,he,hA,hK,hb⟩;exact⟨A,he,hA,⟨hK 0 x rfl,hK 1 y rfl⟩,hb⟩)
 clear HF hn;by_cases h1:qeb x.data.toList=true
 rotate_left
 ·have h1:=ye.2 h1
  have D:r=⟨8,4,[],[],[]⟩:=by rw[hr,h1];simp
  clear hr;subst D;have HX:Hid (∀w,zC 229 #[.string x] w (zQ (.bool false) w)):=fun w=>h1▸HD.out x w;clear h1 HD;go_enter func194,ntmps194
  go_wp2_with (first
   |(go_at_call 226;refine xQ (HC.out _) ?_;rintro e w' ⟨rfl,rfl⟩)
   |(go_at_call 227;refine xQ (O.out _) ?_;rintro e w' ⟨A,rfl,hA,⟨U,V⟩,hb⟩;have hS:=(qd4 w).next hb;obtain⟨⟨k0,k1,k2,k3,k4⟩,f0,f1,f2,f3,f4⟩:=hS.facts;have HS:=zH hS;clear hb hS)
   | (go_at_call 229;refine xQ (HX.out _) ?_;rintro e w'' ⟨rfl,rfl⟩))
  exact qgr (w0:=w) ⟨8,4,[],[],[]⟩ results194 rfl rfl HS.out rfl
 have HX:Hid (∀w,zC 229 #[.string x] w (zQ (.bool true) w)):=fun w=>h1▸HD.out x w;by_cases h2:qeb y.data.toList=true
 rotate_left
 ·have h2:=ye.2 h2
  have D:r=⟨8,4,[],[],[]⟩:=by rw[hr,h2];simp
  clear hr;subst D;obtain⟨dl,h1,h2,HZ⟩:∃dl:zT->Bool,dl x=true/\dl y=false/\Hid (∀(z:zT) (w:World),zC 229 #[.string z] w (zQ (.bool (dl z)) w)):=⟨fun z=>qeb z.data.toList,h1,h2,fun z w=>HD.out z w⟩;clear HD HX;go_enter func194,ntmps194
  go_wp2_with (first
   |(go_at_call 226;refine xQ (HC.out _) ?_;rintro e w' ⟨rfl,rfl⟩)
   |(go_at_call 227;refine xQ (O.out _) ?_;rintro e w' ⟨A,rfl,hA,⟨U,V⟩,hb⟩;have hS:=(qd4 w).next hb;obtain⟨⟨k0,k1,k2,k3,k4⟩,f0,f1,f2,f3,f4⟩:=hS.facts;have HS:=zH hS;clear hb hS)
   | (go_at_call 229;refine xQ (HZ.out _ _) ?_;rintro e w'' ⟨rfl,rfl⟩;first | rw[h1] | rw[h2]))
  exact qgr (w0:=w) ⟨8,4,[],[],[]⟩ results194 rfl rfl HS.out rfl
 have D:r=⟨8,0,[],x.data.toList,y.data.toList⟩:=by rw[hr,h1,h2];simp
 obtain⟨dl,h1,h2,HZ⟩:∃dl:zT->Bool,dl x=true/\dl y=true/\Hid (∀(z:zT) (w:World),zC 229 #[.string z] w (zQ (.bool (dl z)) w)):=⟨fun z=>qeb z.data.toList,h1,h2,fun z w=>HD.out z w⟩;clear hr HD HX;subst D;have HV:Hid (#[Value.int .i64 8,zI 0,zS,.string x,.string y]=qnd ⟨8,0,[],x.data.toList,y.data.toList⟩):=rfl;go_enter func194,ntmps194
 go_wp2_with (first
   |(go_at_call 226;refine xQ (HC.out _) ?_;rintro e w' ⟨rfl,rfl⟩)
   |(go_at_call 227;refine xQ (O.out _) ?_;rintro e w' ⟨A,rfl,hA,⟨U,V⟩,hb⟩;have hS:=(qd4 w).next hb;obtain⟨⟨k0,k1,k2,k3,k4⟩,f0,f1,f2,f3,f4⟩:=hS.facts;have HS:=zH hS;clear hb hS)
   | (go_at_call 229;refine xQ (HZ.out _ _) ?_;rintro e w'' ⟨rfl,rfl⟩;first | rw[h1] | rw[h2]))
 have T:A≠w.heap.size:=by
  have X:∀o:Obj,(w.alloc o).heap.size=w.heap.size+1:=fun o=>by unfold World.alloc;simp only[Array.size_push]
  rw[X]at hA;omega
 clear hA;go_region
 go_wp2
 exact qp1 (w0:=w) (r:=⟨8,0,[],x.data.toList,y.data.toList⟩) results194 rfl rfl (by rw[<-HV.out];exact qx4 HS.out.blk _ _ _ _ _) (qoc HS.out.below (yg _) _ _ _ _ _).drew
theorem zh2(s:zT):(s.extract 1 s.size).data.toList=s.data.toList.drop 1:=by
 rw[Lib.extract_eq];show List.take _ _=_;exact yp (by simp)
theorem qr5(s:zT)(w:World)(z:s.size≠0)(D:s.size<=100000) :
  zC 194 #[.string s] w (zR (qeh (qdc s.data.toList)) w):=by
 have I:=zh2 s;have y:(s.extract 1 s.size).size<=s.size:=by simp
 have J:(⟨(Lib.trimSuffix (s.data.toList.drop 1) [61]).toArray⟩:zT).size<=100000:=by
  show(Lib.trimSuffix (s.data.toList.drop 1) [61]).length<=_;have O:s.data.toList.length=s.size:=by simp
  unfold Lib.trimSuffix;split<;>simp<;>omega
 have T:=qya ⟨(Lib.trimSuffix (s.data.toList.drop 1) [61]).toArray⟩;refine qr4 s w ⟨(Lib.trimSuffix (s.data.toList.drop 1) [61]).toArray⟩ (Lib.hasSuffix (s.data.toList.drop 1) [61]) (Lib.goFieldsP qcm ⟨(Lib.trimSuffix (s.data.toList.drop 1) [61]).toArray⟩) _ z (fun w=>?_) (fun w=>q1q _ w J) ?_
 ·refine(strings_CutSuffix (s.extract 1 s.size) ⟨#[61]⟩ w (by omega)).mono ?_
  rintro e w' ⟨rfl,rfl⟩;rw[I];exact⟨rfl,rfl⟩
 ·rw[q8b,<-T]
theorem q0o(s:zT)(w:World)(z:s.size<=100000)(D:qay s.data.toList=8) :
  zC 149 #[.string s] w (zR (qeh (qba s.data.toList)) w):=by
 have y:s.size≠0:=fun q=>by
  have:s.data.toList=[]:=by
   apply yC;simpa using q
  rw[this]at D;exact absurd D (by decide)
 have I:qba s.data.toList=qdc s.data.toList:=by unfold qba;rw[D];rfl
 rw[I];have J:Hid (#[Value.int .i64 (qdc s.data.toList).kind,zI (qdc s.data.toList).slip,bs (qdc s.data.toList).name,bs (qdc s.data.toList).op,bs (qdc s.data.toList).cl]=qnd (qdc s.data.toList)):=rfl;have O:=zH (fun w=>qr5 s w y z);have T:=zH (fun w=>D▸qgs s w);clear I D y z;generalize qdc s.data.toList=r at O J |-;unfold qeh at O;unfold bs at O J;generalize (r.kind:Int)=r0 at O J;generalize (r.slip:Int)=r1 at O J;generalize (⟨r.name.toArray⟩:zT)=r2 at O J;generalize (⟨r.op.toArray⟩:zT)=r3 at O J;generalize (⟨r.cl.toArray⟩:zT)=r4 at O J;go_enter func149,ntmps149
 go_wp2_with (first
   |(go_at_call 193;refine xQ (T.out _) ?_;rintro e w' ⟨rfl,rfl⟩)
   | (go_at_call 194;refine xQ (O.out _) ?_;rintro e w' ⟨rfl,U⟩;have V:=(qd4 w).next U;obtain⟨⟨k0,k1,k2,k3,k4⟩,f0,f1,f2,f3,f4⟩:=V.facts;have X:=zH V;clear U V))
 exact qgr (w0:=w) r results149 rfl rfl X.out J.out
theorem qjq(t:zU):qd0 t:=by
 intro L w y z D;by_cases I:qay L=8
 ·exact q0o ⟨L.toArray⟩ w (by rw[qb1];omega) I
 ·exact q42 ⟨L.toArray⟩ w (by rw[qb1];omega) D I
end Go.Proofs.YtfkhljmiehdgmaaGreatDoor
