/-
  Steps of the proof.
-/
import Derived.Test.YtfkhljmiehdgmaaGreatDoorCuBQ
set_option maxRecDepth 100000
set_option maxHeartbeats 40000000
namespace Go.Proofs.YtfkhljmiehdgmaaGreatDoor
open Go.RowKit Go.Proofs.Tryz Pl
section
open Go Go.Lib Go.Shelf
variable{w:World}{g B:Nat}{vv dv:Value}{e:Ev}
theorem qwa(ao:Option Addr)(n cap:Nat)(w:World):zC 59 #[.slice ao n cap] w (zR (.agg #[.slice ao n cap,zI 0]) w):=by
 go_enter func59,ntmps59
 go_wp2
 exact qlt (g:=w.heap.size) results59 rfl rfl (xG w _) rfl ⟨rfl,zB _⟩
theorem qx3{a0 a1 a2 a3 a4 a5 a6 a7:Value}{T:TypeId}(h:w.heap[g]?=zK #[a0,a1,a2,a3,a4,a5,a6,a7] T)(v0 v1 v2 v3 v4 v5 v6 v7:Value):((((((((w.setCell (zO g 0) v0).setCell (zO g 1) v1).setCell (zO g 2) v2).setCell (zO g 3) v3).setCell (zO g 4) v4).setCell (zO g 5) v5).setCell (zO g 6) v6).setCell (zO g 7) v7).heap[g]?=zK #[v0,v1,v2,v3,v4,v5,v6,v7] T:=by
 have h0:(w.setCell (zO g 0) v0).heap[g]?=zK #[v0,a1,a2,a3,a4,a5,a6,a7] T:=xH _ _ 0 _ _ _ h;have h1:((w.setCell (zO g 0) v0).setCell (zO g 1) v1).heap[g]?=zK #[v0,v1,a2,a3,a4,a5,a6,a7] T:=xH _ _ 1 _ _ _ h0;have h2:(((w.setCell (zO g 0) v0).setCell (zO g 1) v1).setCell (zO g 2) v2).heap[g]?=zK #[v0,v1,v2,a3,a4,a5,a6,a7] T:=xH _ _ 2 _ _ _ h1;have h3:((((w.setCell (zO g 0) v0).setCell (zO g 1) v1).setCell (zO g 2) v2).setCell (zO g 3) v3).heap[g]?=zK #[v0,v1,v2,v3,a4,a5,a6,a7] T:=xH _ _ 3 _ _ _ h2;have h4:(((((w.setCell (zO g 0) v0).setCell (zO g 1) v1).setCell (zO g 2) v2).setCell (zO g 3) v3).setCell (zO g 4) v4).heap[g]?=zK #[v0,v1,v2,v3,v4,a5,a6,a7] T:=xH _ _ 4 _ _ _ h3;have h5:((((((w.setCell (zO g 0) v0).setCell (zO g 1) v1).setCell (zO g 2) v2).setCell (zO g 3) v3).setCell (zO g 4) v4).setCell (zO g 5) v5).heap[g]?=zK #[v0,v1,v2,v3,v4,v5,a6,a7] T:=xH _ _ 5 _ _ _ h4;have h6:(((((((w.setCell (zO g 0) v0).setCell (zO g 1) v1).setCell (zO g 2) v2).setCell (zO g 3) v3).setCell (zO g 4) v4).setCell (zO g 5) v5).setCell (zO g 6) v6).heap[g]?=zK #[v0,v1,v2,v3,v4,v5,v6,a7] T:=xH _ _ 6 _ _ _ h5;have h7:((((((((w.setCell (zO g 0) v0).setCell (zO g 1) v1).setCell (zO g 2) v2).setCell (zO g 3) v3).setCell (zO g 4) v4).setCell (zO g 5) v5).setCell (zO g 6) v6).setCell (zO g 7) v7).heap[g]?=zK #[v0,v1,v2,v3,v4,v5,v6,v7] T:=xH _ _ 7 _ _ _ h6;exact h7
theorem qj0{k:Nat}(hk:k≠g)(v0 v1 v2 v3 v4 v5 v6 v7:Value):((((((((w.setCell (zO g 0) v0).setCell (zO g 1) v1).setCell (zO g 2) v2).setCell (zO g 3) v3).setCell (zO g 4) v4).setCell (zO g 5) v5).setCell (zO g 6) v6).setCell (zO g 7) v7).heap[k]?=w.heap[k]?:=by
 have h:∀(x:World) (j:Nat) (v:Value),(x.setCell (zO g j) v).heap[k]?=x.heap[k]?:=fun x j v=>xL _ _ _ _ hk;rw[h,h,h,h,h,h,h,h]
theorem qk0{a:World}(h:Below B a w)(hg:B<=g)(v0 v1 v2 v3 v4 v5 v6 v7:Value):Below B a ((((((((w.setCell (zO g 0) v0).setCell (zO g 1) v1).setCell (zO g 2) v2).setCell (zO g 3) v3).setCell (zO g 4) v4).setCell (zO g 5) v5).setCell (zO g 6) v6).setCell (zO g 7) v7):=
 (((((((h.setCell (p:=zO g 0) hg _).setCell (p:=zO g 1) hg _).setCell (p:=zO g 2) hg _).setCell (p:=zO g 3) hg _).setCell (p:=zO g 4) hg _).setCell (p:=zO g 5) hg _).setCell (p:=zO g 6) hg _).setCell (p:=zO g 7) hg _
theorem qt5{b:Nat}{x:World}(hB:B<=g)(hb:B<=b)(hg:x.heap[g]?=zK #[vv,zI e.depth,zI e.room,zF b 1 1,zI 0,.pointer none,zN,zN] 155)(ha:x.heap[b]?=zK #[dv,zI 0] 147) :
  WrAt x B g vv dv e [some 0] ⟨[],[],0⟩:=by
 refine⟨zF b 1 1,zN,.pointer none,zN,⟨hB,hg,⟨rfl,.inl ⟨rfl,rfl⟩⟩,.inl rfl,fun _=>rfl⟩,⟨rfl,.inr ⟨b,1,_,rfl,hb,ha,yg _,by unfold maxLen;omega,rfl,rfl⟩⟩,⟨rfl,.inl ⟨rfl,rfl⟩⟩⟩
abbrev wr0:Obj:=.cells #[zN,zI 0,zI 0,zN,zI 0,.pointer none,zN,zN] 155
theorem zb3{w0:World}{M:Nat}(hE:Evm w0 vv dv e M)(Hf:0<e.vis.length)(r:Wt×Int)(hr:e.page=r) :
  zC 36 #[.agg #[vv],dv,zI e.depth,zI e.room] w0 fun ed w'=>∃hg,ed=.returned (.tuple #[bs r.1.out,hg,zI r.2])/\(r.2≠0->hg=zN)/\(r.2=0->w'.ownsRow w0.heap.size 55 3 hg r.1.holes.length (qhd r.1.holes))/\zW w0 w':=by
 obtain⟨bv,vcap,rfl,_,_⟩:=id hE.vis;obtain⟨da,dcap,rfl,_,_⟩:=id hE.ds;obtain⟨w1,Hg⟩:∃w1,w0.alloc (.cells #[zF bv e.vis.length vcap] 77)=w1:=⟨_,rfl⟩;have hf:zW w0 w1:=by rw[<-Hg];exact zB _
 have k0:w1.cell? (zO w0.heap.size 0)=some (zF bv e.vis.length vcap):=by rw[<-Hg];exact qaa (xG w0 _) 0 _ rfl
 have Hk:w0.heap.size<w1.heap.size:=qka k0;obtain⟨s,hs⟩:∃s,w0.heap.size=s:=⟨_,rfl⟩;obtain⟨hT,HT⟩:∃R,Hid (R=fun(g:Nat) (w2:World)=>zC 60 #[zP g,zI 0,zI 0] w2 fun ed w3=>ed=.returned (zI r.2)/\Hid ((∃K',WrAt w3 w0.heap.size g (zF bv e.vis.length vcap) (.slice da e.D.length dcap) e K' r.1)/\zW w0 w3)):=⟨_,rfl⟩;have HC:∀g w2,zW w0 w2->WrAt w2 w0.heap.size g (zF bv e.vis.length vcap) (.slice da e.D.length dcap) e [some 0] ⟨[],[],0⟩->hT g w2:=fun g w2 hb hw=>by
  rw[HT.out];have Hm:Wst w0 g (zF bv e.vis.length vcap) (.slice da e.D.length dcap) e M [some 0] ⟨[],[],0⟩ w2:=⟨hb,hw,⟨by decide,yH _,yH _,by rcases Int.lt_or_le e.room 0 with h|h;exact .inl h;exact .inr h⟩,by simp⟩;refine(qwc hE (q8g hE 5002) 0 Hf 0 [some 0] ⟨[],[],0⟩ w2 (by decide) (by decide) Hm (by decide) (by decide)).mono ?_;intro ed w3 hO;have Hn:e.run 5002 0 0 (e.parts 0).length 0 [some 0] ⟨[],[],0⟩=r:=hr;rw[Hn]at hO;obtain⟨h1,⟨K',h2,_⟩,h3⟩:=hO;exact⟨h1,⟨K',h2⟩,hb.trans h3.below⟩
 go_enter func36,ntmps36
 go_wp2
 refine Code.wp_mono (Q:=fun ex a' w'=>ex=.normal/\∃g bb,a'={ tmps:=#[.agg #[zF bv e.vis.length vcap],.slice da e.D.length dcap,zI e.depth,zI e.room,zP s,undef,undef,undef,zS,zN,zI 0,zP g,undef,zP s,zF bv e.vis.length vcap,zI e.depth,zI e.room,.slice da e.D.length dcap,.agg #[.slice da e.D.length dcap,zI 0],zF bb 1 1,.agg #[zF bv e.vis.length vcap,zI e.depth,zI e.room,zF bb 1 1,zI 0,.pointer none,zN,zN],undef,undef,undef,undef,undef,undef,undef,undef,undef,undef],defers:=[] }/\WrAt w' w0.heap.size g (zF bv e.vis.length vcap) (.slice da e.D.length dcap) e [some 0] ⟨[],[],0⟩/\zW w0 w') (fun ex a' w2 hm=>?rest) ?reg
 case reg=>
  have hl:Enters prog 59:=enters_of func59 (by kernel_rfl) rfl;have hi:zW w1 w1.drew:=(xM _ _).drew;rw[hs]at k0;have Ho:s<w1.heap.size:=by rw[<-hs];exact Hk
  have Hb:∀x,zW w1 x->x.cell? (zO s 0)=some (zF bv e.vis.length vcap):=fun x hx=>(hx.cell (p:=zO s 0) Ho).trans k0;refine wp_region_held_drew (S:=fun x=>x.cell? (zO s 0)=some (zF bv e.vis.length vcap)) (by kernel_rfl) k0 (fun hS=>?_);clear HC HT Hf hr;refine qbf (i:=0) (zP s) rfl (by kernel_rfl) (by kernel_rfl) (by kernel_rfl) (fun _ _ _ h=>by cases h.1) rfl (fun X hx=>?_) hS ?_
  ·have x1:X.cell? (zO s 0)=some (zF bv e.vis.length vcap):=hx
   go_simp
  refine qbf (i:=1) (zF bv e.vis.length vcap) rfl (by kernel_rfl) (by kernel_rfl) (by kernel_rfl) (fun _ _ _ h=>by cases h.1) rfl (fun X hx=>?_) hS ?_
  ·have x1:X.cell? (zO s 0)=some (zF bv e.vis.length vcap):=hx
   go_simp
  refine qbf (i:=2) (zI e.depth) rfl (by kernel_rfl) (by kernel_rfl) (by kernel_rfl) (fun _ _ _ h=>by cases h.1) rfl (fun X hx=>?_) hS ?_
  ·have x1:X.cell? (zO s 0)=some (zF bv e.vis.length vcap):=hx
   go_simp
  refine qbf (i:=3) (zI e.room) rfl (by kernel_rfl) (by kernel_rfl) (by kernel_rfl) (fun _ _ _ h=>by cases h.1) rfl (fun X hx=>?_) hS ?_
  ·have x1:X.cell? (zO s 0)=some (zF bv e.vis.length vcap):=hx
   go_simp
  refine qbf (i:=4) (.slice da e.D.length dcap) rfl (by kernel_rfl) (by kernel_rfl) (by kernel_rfl) (fun _ _ _ h=>by cases h.1) rfl (fun X hx=>?_) hS ?_
  ·have x1:X.cell? (zO s 0)=some (zF bv e.vis.length vcap):=hx
   go_simp
  refine wpAnyH_ready (rs:=[5,8]) (by kernel_rfl) (by simp) (AllReadyH.cons rfl (fun K' Ha=>?_) (AllReadyH.cons rfl (fun K' Ha=>?_) AllReadyH.nil))
  ·skip
   refine qji rfl 59 #[.tmp 17] #[44] rfl hl (fun v' x=>v'=.agg #[.slice da e.D.length dcap,zI 0]/\zW w1 x) #[.slice da e.D.length dcap] (by simp[Act.eval,Act.put]) ((qwa da e.D.length dcap w1.drew).mono ?_) ?_
   ·rintro e2 x' ⟨rfl,hx⟩
    exact⟨_,rfl,rfl,hi.trans hx⟩
   rintro _ x ⟨rfl,hx⟩;refine Ha.out _ _ (Hb x hx) (fun hS=>?_);clear Ha K';have Hc:=hx.size;refine wpAnyH_ready (rs:=[6,8]) (by kernel_rfl) (by simp) (AllReadyH.cons rfl (fun K' Ha=>?_) (AllReadyH.cons rfl (fun K' Ha=>?_) AllReadyH.nil))
   ·go_simp
    refine Ha.out _ _ (Hb _ (hx.alloc Hc (.cells #[.slice da e.D.length dcap,zI 0] 147))) (fun hS=>?_);clear Ha K';refine qbf (i:=7) (.agg #[zF bv e.vis.length vcap,zI e.depth,zI e.room,zF x.heap.size 1 1,zI 0,.pointer none,zN,zN]) rfl (by kernel_rfl) (by kernel_rfl) (by kernel_rfl) (fun _ _ _ h=>by cases h.1) rfl (fun X hx=>?_) hS ?_
    ·have x1:X.cell? (zO s 0)=some (zF bv e.vis.length vcap):=hx
     go_simp
    refine rd (r:=8) (by kernel_rfl) rfl (fun K' Ha=>?_);go_simp
    refine Ha.out _ _ (Hb _ ((hx.alloc Hc _).alloc (by rw[qcf];omega) _)) (fun hS=>?_);clear Ha K';refine rd (r:=9) (by kernel_rfl) rfl (fun K' Ha=>?_);go_simp
    have hc:=(hx.alloc Hc (.cells #[.slice da e.D.length dcap,zI 0] 147)).alloc (by rw[qcf];omega) (.cells #[zF bv e.vis.length vcap,zI e.depth,zI e.room,zF x.heap.size 1 1,zI 0,.pointer none,zN,zN] 155);refine Ha.out _ _ (Hb _ hc) (fun hS=>?_);refine wpAnyH_done (by kernel_rfl) ?_ _;exact⟨rfl,_,_,rfl,qt5 (by omega) (by omega) (q0t x _ _) ((((xM _ (x.alloc _)).alloc (yg _) _).block _ (by rw[qcf];omega)).trans (xG x _)),hf.trans (hc.mono (by omega))⟩
   ·go_simp
    refine Ha.out _ _ (Hb _ (hx.alloc Hc wr0)) (fun hS=>?_);clear Ha K';refine rd (r:=6) (by kernel_rfl) rfl (fun K' Ha=>?_);go_simp
    refine Ha.out _ _ (Hb _ ((hx.alloc Hc _).alloc (by rw[qcf];omega) _)) (fun hS=>?_);clear Ha K';refine qbf (i:=7) (.agg #[zF bv e.vis.length vcap,zI e.depth,zI e.room,zF (x.heap.size+1) 1 1,zI 0,.pointer none,zN,zN]) rfl (by kernel_rfl) (by kernel_rfl) (by kernel_rfl) (fun _ _ _ h=>by cases h.1) rfl (fun X hx=>?_) hS ?_
    ·have x1:X.cell? (zO s 0)=some (zF bv e.vis.length vcap):=hx
     go_simp
    have ha:((x.alloc wr0).alloc (.cells #[.slice da e.D.length dcap,zI 0] 147)).heap[x.heap.size]?=some wr0:=(((xM _ (x.alloc _)).alloc (yg _) _).block _ (by rw[qcf];omega)).trans (xG x _);have he:((x.alloc wr0).alloc (.cells #[.slice da e.D.length dcap,zI 0] 147)).heap[x.heap.size+1]?=zK #[.slice da e.D.length dcap,zI 0] 147:=q0t x _ _;have hc:=(hx.alloc Hc wr0).alloc (by rw[qcf];omega) (.cells #[.slice da e.D.length dcap,zI 0] 147);have He:w1.heap.size<=x.heap.size:=Hc;have Hi:x.heap.size+1≠x.heap.size:=by omega
    obtain⟨Y,hY⟩:∃Y,(x.alloc wr0).alloc (.cells #[.slice da e.D.length dcap,zI 0] 147)=Y:=⟨_,rfl⟩;rw[hY]at ha he hc |-;have z0:=qaa ha 0 _ rfl;have y0:(Y).frozen? (zO x.heap.size 0)=false:=by simp[World.frozen?,ha]
    have z1:=qaa ha 1 _ rfl;have y1:(Y).frozen? (zO x.heap.size 1)=false:=by simp[World.frozen?,ha]
    have z2:=qaa ha 2 _ rfl;have y2:(Y).frozen? (zO x.heap.size 2)=false:=by simp[World.frozen?,ha]
    have z3:=qaa ha 3 _ rfl;have y3:(Y).frozen? (zO x.heap.size 3)=false:=by simp[World.frozen?,ha]
    have z4:=qaa ha 4 _ rfl;have y4:(Y).frozen? (zO x.heap.size 4)=false:=by simp[World.frozen?,ha]
    have z5:=qaa ha 5 _ rfl;have y5:(Y).frozen? (zO x.heap.size 5)=false:=by simp[World.frozen?,ha]
    have z6:=qaa ha 6 _ rfl;have y6:(Y).frozen? (zO x.heap.size 6)=false:=by simp[World.frozen?,ha]
    have z7:=qaa ha 7 _ rfl;have y7:(Y).frozen? (zO x.heap.size 7)=false:=by simp[World.frozen?,ha]
    refine rd (r:=9) (by kernel_rfl) rfl (fun K' Ha=>?_);go_simp
    refine Ha.out _ _ (Hb _ (qk0 hc He _ _ _ _ _ _ _ _)) (fun hS=>?_);refine wpAnyH_done (by kernel_rfl) ?_ _;exact⟨rfl,_,_,rfl,qt5 (by omega) (by omega) (qx3 ha _ _ _ _ _ _ _ _) ((qj0 Hi _ _ _ _ _ _ _ _).trans he),hf.trans ((qk0 hc He _ _ _ _ _ _ _ _).mono (by omega))⟩
  ·go_simp
   refine Ha.out _ _ (Hb _ (hi.alloc (yg _) wr0)) (fun hS=>?_);clear Ha K';refine rd (r:=5) (by kernel_rfl) rfl (fun K' Ha=>?_);refine qji rfl 59 #[.tmp 17] #[44] rfl hl (fun v' x=>v'=.agg #[.slice da e.D.length dcap,zI 0]/\zW w1 x/\x.heap[w1.heap.size]?=some wr0/\w1.heap.size<x.heap.size) #[.slice da e.D.length dcap] (by simp[Act.eval]) ((qwa da e.D.length dcap (w1.alloc wr0).drew).mono ?_) ?_
   ·rintro e2 x' ⟨rfl,hx⟩
    have hq:w1.heap.size<(w1.alloc wr0).drew.heap.size:=by show _<(w1.alloc _).heap.size;rw[qcf];omega
    exact⟨_,rfl,rfl,(hi.alloc (yg _) wr0).trans (hx.mono (yj hq)),(hx.block _ hq).trans (xG w1 _),yi hq hx.size⟩
   rintro _ x ⟨rfl,hx,hp,Hp⟩;refine Ha.out _ _ (Hb x hx) (fun hS=>?_);clear Ha K';refine rd (r:=6) (by kernel_rfl) rfl (fun K' Ha=>?_);go_simp
   refine Ha.out _ _ (Hb _ (hx.alloc hx.size (.cells #[.slice da e.D.length dcap,zI 0] 147))) (fun hS=>?_);clear Ha K';refine qbf (i:=7) (.agg #[zF bv e.vis.length vcap,zI e.depth,zI e.room,zF x.heap.size 1 1,zI 0,.pointer none,zN,zN]) rfl (by kernel_rfl) (by kernel_rfl) (by kernel_rfl) (fun _ _ _ h=>by cases h.1) rfl (fun X hx=>?_) hS ?_
   ·have x1:X.cell? (zO s 0)=some (zF bv e.vis.length vcap):=hx
    go_simp
   have ha:(x.alloc (.cells #[.slice da e.D.length dcap,zI 0] 147)).heap[w1.heap.size]?=some wr0:=(((xM _ x).alloc (yg _) _).block _ Hp).trans hp;have he:(x.alloc (.cells #[.slice da e.D.length dcap,zI 0] 147)).heap[x.heap.size]?=zK #[.slice da e.D.length dcap,zI 0] 147:=xG x _;have hc:=hx.alloc hx.size (.cells #[.slice da e.D.length dcap,zI 0] 147);have He:w1.heap.size<=w1.heap.size:=yg _;have Hi:x.heap.size≠w1.heap.size:=by omega
   obtain⟨Y,hY⟩:∃Y,x.alloc (.cells #[.slice da e.D.length dcap,zI 0] 147)=Y:=⟨_,rfl⟩;rw[hY]at ha he hc |-;have z0:=qaa ha 0 _ rfl;have y0:(Y).frozen? (zO w1.heap.size 0)=false:=by simp[World.frozen?,ha]
   have z1:=qaa ha 1 _ rfl;have y1:(Y).frozen? (zO w1.heap.size 1)=false:=by simp[World.frozen?,ha]
   have z2:=qaa ha 2 _ rfl;have y2:(Y).frozen? (zO w1.heap.size 2)=false:=by simp[World.frozen?,ha]
   have z3:=qaa ha 3 _ rfl;have y3:(Y).frozen? (zO w1.heap.size 3)=false:=by simp[World.frozen?,ha]
   have z4:=qaa ha 4 _ rfl;have y4:(Y).frozen? (zO w1.heap.size 4)=false:=by simp[World.frozen?,ha]
   have z5:=qaa ha 5 _ rfl;have y5:(Y).frozen? (zO w1.heap.size 5)=false:=by simp[World.frozen?,ha]
   have z6:=qaa ha 6 _ rfl;have y6:(Y).frozen? (zO w1.heap.size 6)=false:=by simp[World.frozen?,ha]
   have z7:=qaa ha 7 _ rfl;have y7:(Y).frozen? (zO w1.heap.size 7)=false:=by simp[World.frozen?,ha]
   refine rd (r:=9) (by kernel_rfl) rfl (fun K' Ha=>?_);go_simp
   refine Ha.out _ _ (Hb _ (qk0 hc He _ _ _ _ _ _ _ _)) (fun hS=>?_);refine wpAnyH_done (by kernel_rfl) ?_ _;exact⟨rfl,_,_,rfl,qt5 (by omega) (by omega) (qx3 ha _ _ _ _ _ _ _ _) ((qj0 Hi _ _ _ _ _ _ _ _).trans he),hf.trans ((qk0 hc He _ _ _ _ _ _ _ _).mono (by omega))⟩
 case rest=>
  obtain⟨rfl,g,bb,rfl,hw,Hl⟩:=hm;have ht:=HC g w2 Hl hw;rw[HT.out]at ht;clear HC HT Hf hw Hl k0 hf Hg Hk hs;by_cases hz:r.2=0
  ·have hj:Hid (zC 60 #[zP g,zI 0,zI 0] w2 fun ed w3=>ed=.returned (zI 0)/\Hid (∃ho hn hcap,w3.cell? (zO g 7)=some (.slice ho hn hcap)/\Hid (zC 61 #[.pointer (some (zO g 5))] w3.drew fun ed w4=>ed=.returned (zV r.1.out)/\w4.cell? (zO g 7)=some (.slice ho hn hcap)/\Hid (w4.ownsRow w0.heap.size 55 3 (.slice ho hn hcap) r.1.holes.length (qhd r.1.holes)/\zW w0 w4)))):=by
    refine ht.mono ?_;rintro ed w3 ⟨rfl,H3⟩;obtain⟨⟨K',sv,hv,bp,bvv,hq⟩,Hj⟩:=H3.out;have Hq:∃ho hn hcap,hv=.slice ho hn hcap:=by
     rcases hq.ho.2 with⟨h1,_⟩|⟨b,cap,cur,h1,_⟩
     ·exact⟨_,_,_,h1⟩
     ·exact⟨_,_,_,h1⟩
    obtain⟨ho,hn,hcap,rfl⟩:=Hq;have c7:=hq.wb.all.2.2.2.2.2.1;refine⟨by rw[hz],ho,hn,hcap,c7,(q2i w3.drew w0.heap.size g _ _ _ _ _ _ _ _ _ hq.wb.drew).mono ?_⟩;rintro ed w4 ⟨rfl,h1,h2,h3⟩;exact⟨rfl,(xQ (a:=zO g 7) h3).trans c7,quq (w:=w3.drew) hq.ho (by decide) (show w3.drew.heap[g]?=_ from hq.wb.blk) (by decide) h2,(Hj.drew).trans h1⟩
   clear ht;go_wp2_with (go_at_call 60;refine xR hj.out ?_;rintro ed w3 ⟨rfl,H3⟩)
   obtain⟨ho,hn,hcap,c7,hk⟩:=H3.out;have Hr:Enters prog 61:=enters_of func61 (by kernel_rfl) rfl;refine Code.wp_mono (Q:=fun ex a' w'=>ex=.normal/\a'={ tmps:=#[.agg #[zF bv e.vis.length vcap],.slice da e.D.length dcap,zI e.depth,zI e.room,zP s,undef,undef,undef,zV r.1.out,.slice ho hn hcap,zI 0,zP g,zI 0,zP s,zF bv e.vis.length vcap,zI e.depth,zI e.room,.slice da e.D.length dcap,.agg #[.slice da e.D.length dcap,zI 0],zF bb 1 1,.agg #[zF bv e.vis.length vcap,zI e.depth,zI e.room,zF bb 1 1,zI 0,.pointer none,zN,zN],zI 0,zI 0,.bool false,undef,undef,undef,.pointer (some (zO g 5)),zV r.1.out,.pointer (some (zO g 7)),.slice ho hn hcap],defers:=[] }/\Hid (w'.ownsRow w0.heap.size 55 3 (.slice ho hn hcap) r.1.holes.length (qhd r.1.holes)/\zW w0 w')) (fun ex a' w' hm=>?r2) ?r1
   case r2=>
    obtain⟨rfl,rfl,HX⟩:=hm;go_wp2
    go_ret3
    exact⟨.slice ho hn hcap,by rw[hz];rfl,fun h=>absurd hz h,fun _=>HX.out.1,HX.out.2⟩
   refine wp_region_held_drew (S:=fun x=>x.cell? (zO g 7)=some (.slice ho hn hcap)) (by kernel_rfl) c7 (fun hS=>?_);refine qbf (i:=0) (.pointer (some (zO g 5))) rfl (by kernel_rfl) (by kernel_rfl) (by kernel_rfl) (fun _ _ _ h=>by cases h.1) rfl (fun X hx=>?_) hS ?_
   ·have x1:X.cell? (zO g 7)=some (.slice ho hn hcap):=hx
    go_simp
   refine qbf (i:=2) (.pointer (some (zO g 7))) rfl (by kernel_rfl) (by kernel_rfl) (by kernel_rfl) (fun _ _ _ h=>by cases h.1) rfl (fun X hx=>?_) hS ?_
   ·have x1:X.cell? (zO g 7)=some (.slice ho hn hcap):=hx
    go_simp
   refine qbf (i:=3) (.slice ho hn hcap) rfl (by kernel_rfl) (by kernel_rfl) (by kernel_rfl) (fun _ _ _ h=>by cases h.1) rfl (fun X hx=>?_) hS ?_
   ·have x1:X.cell? (zO g 7)=some (.slice ho hn hcap):=hx
    go_simp
   refine rd (r:=1) (by kernel_rfl) rfl (fun K' Ha=>?_);refine qji rfl 61 #[.tmp 27] #[153] rfl Hr (fun v' x=>v'=zV r.1.out/\x.cell? (zO g 7)=some (.slice ho hn hcap)/\Hid (x.ownsRow w0.heap.size 55 3 (.slice ho hn hcap) r.1.holes.length (qhd r.1.holes)/\zW w0 x)) #[.pointer (some (zO g 5))] (by simp[Act.eval,Act.put]) (hk.out.mono ?_) ?_
   ·rintro e2 x' ⟨rfl,h1,h2⟩
    exact⟨_,rfl,rfl,h1,h2⟩
   rintro _ x ⟨rfl,h7,HX⟩;refine Ha.out _ _ h7 (fun hS=>?_);clear Ha K';refine qbf (i:=4) (zV r.1.out) rfl (by kernel_rfl) (by kernel_rfl) (by kernel_rfl) (fun _ _ _ h=>by cases h.1) rfl (fun X hx=>?_) hS ?_
   ·have x1:X.cell? (zO g 7)=some (.slice ho hn hcap):=hx
    go_simp
   refine qbf (i:=5) (.slice ho hn hcap) rfl (by kernel_rfl) (by kernel_rfl) (by kernel_rfl) (fun _ _ _ h=>by cases h.1) rfl (fun X hx=>?_) hS ?_
   ·have x1:X.cell? (zO g 7)=some (.slice ho hn hcap):=hx
    go_simp
   refine qbf (i:=6) (zI 0) rfl (by kernel_rfl) (by kernel_rfl) (by kernel_rfl) (fun _ _ _ h=>by cases h.1) rfl (fun X hx=>?_) hS ?_
   ·have x1:X.cell? (zO g 7)=some (.slice ho hn hcap):=hx
    go_simp
   refine wpAnyH_done (by kernel_rfl) ?_ _;exact⟨rfl,rfl,HX.out⟩
  ·have hj:Hid (zC 60 #[zP g,zI 0,zI 0] w2 fun ed w3=>ed=.returned (zI r.2)/\Hid (zC 61 #[.pointer (some (zO g 5))] w3 fun ed w4=>ed=.returned (zV r.1.out)/\Hid (zW w0 w4))):=by
    refine ht.mono ?_;rintro ed w3 ⟨rfl,H3⟩;obtain⟨⟨K',sv,hv,bp,bvv,hq⟩,Hj⟩:=H3.out;refine⟨rfl,(q2i w3 w0.heap.size g _ _ _ _ _ _ _ _ _ hq.wb).mono ?_⟩;rintro ed w4 ⟨rfl,h1,_⟩;exact⟨rfl,Hj.trans h1⟩
   clear ht
   go_wp2_with (first
    |(go_at_call 61;refine xR hk.out ?_;rintro ed w4 ⟨rfl,HB⟩)
    | (go_at_call 60;refine xR hj.out ?_;rintro ed w3 ⟨rfl,hk⟩))
   go_ret3
   exact⟨_,rfl,fun _=>rfl,fun h=>absurd h hz,HB.out⟩
end
end Go.Proofs.YtfkhljmiehdgmaaGreatDoor
