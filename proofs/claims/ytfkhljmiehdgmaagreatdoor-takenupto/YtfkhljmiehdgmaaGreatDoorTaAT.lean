/-
  Steps of the proof (texts laid together, blanks left out): ReX, PnB.
-/
import Derived.Test.YtfkhljmiehdgmaaGreatDoorTaAQ
import Derived.Test.YtfkhljmiehdgmaaGreatDoorTaAF
namespace Go.Proofs.YtfkhljmiehdgmaaGreatDoor
open Go Go.RowKit Go.Lib Go.Shelf
set_option maxRecDepth 100000 in
set_option maxHeartbeats 1600000 in
theorem qrx (ao:Option Addr) (n cap:Nat) (w:World):Calls Tryz.prog 59 #[.slice ao n cap] w fun ed w'=>ed=.returned (.agg #[.slice ao n cap,.int .i64 0])∧Below w.heap.size w w':=by
 go_enter Tryz.func59,Tryz.ntmps59
 go_wp2
 exact qjr (g:=w.heap.size) Tryz.results59 rfl rfl (heap_alloc_new w _) rfl ⟨rfl,(Below.refl _ _).alloc (Nat.le_refl _) _⟩
theorem qte {w:World} {g:Nat} {a0 a1 a2 a3 a4 a5 a6 a7:Value} {T:TypeId} (h:w.heap[g]?=some (.cells #[a0,a1,a2,a3,a4,a5,a6,a7] T (0,0))) (v0 v1 v2 v3 v4 v5 v6 v7:Value):((((((((w.setCell ⟨g,0,none⟩ v0).setCell ⟨g,1,none⟩ v1).setCell ⟨g,2,none⟩ v2).setCell ⟨g,3,none⟩ v3).setCell ⟨g,4,none⟩ v4).setCell ⟨g,5,none⟩ v5).setCell ⟨g,6,none⟩ v6).setCell ⟨g,7,none⟩ v7).heap[g]?=some (.cells #[v0,v1,v2,v3,v4,v5,v6,v7] T (0,0)):=by
 have h0:(w.setCell ⟨g,0,none⟩ v0).heap[g]?=some (.cells #[v0,a1,a2,a3,a4,a5,a6,a7] T (0,0)):=heap_setCell_same _ _ 0 _ _ _ h
 have h1:((w.setCell ⟨g,0,none⟩ v0).setCell ⟨g,1,none⟩ v1).heap[g]?=some (.cells #[v0,v1,a2,a3,a4,a5,a6,a7] T (0,0)):=heap_setCell_same _ _ 1 _ _ _ h0
 have h2:(((w.setCell ⟨g,0,none⟩ v0).setCell ⟨g,1,none⟩ v1).setCell ⟨g,2,none⟩ v2).heap[g]?=some (.cells #[v0,v1,v2,a3,a4,a5,a6,a7] T (0,0)):=heap_setCell_same _ _ 2 _ _ _ h1
 have h3:((((w.setCell ⟨g,0,none⟩ v0).setCell ⟨g,1,none⟩ v1).setCell ⟨g,2,none⟩ v2).setCell ⟨g,3,none⟩ v3).heap[g]?=some (.cells #[v0,v1,v2,v3,a4,a5,a6,a7] T (0,0)):=heap_setCell_same _ _ 3 _ _ _ h2
 have h4:(((((w.setCell ⟨g,0,none⟩ v0).setCell ⟨g,1,none⟩ v1).setCell ⟨g,2,none⟩ v2).setCell ⟨g,3,none⟩ v3).setCell ⟨g,4,none⟩ v4).heap[g]?=some (.cells #[v0,v1,v2,v3,v4,a5,a6,a7] T (0,0)):=heap_setCell_same _ _ 4 _ _ _ h3
 have h5:((((((w.setCell ⟨g,0,none⟩ v0).setCell ⟨g,1,none⟩ v1).setCell ⟨g,2,none⟩ v2).setCell ⟨g,3,none⟩ v3).setCell ⟨g,4,none⟩ v4).setCell ⟨g,5,none⟩ v5).heap[g]?=some (.cells #[v0,v1,v2,v3,v4,v5,a6,a7] T (0,0)):=heap_setCell_same _ _ 5 _ _ _ h4
 have h6:(((((((w.setCell ⟨g,0,none⟩ v0).setCell ⟨g,1,none⟩ v1).setCell ⟨g,2,none⟩ v2).setCell ⟨g,3,none⟩ v3).setCell ⟨g,4,none⟩ v4).setCell ⟨g,5,none⟩ v5).setCell ⟨g,6,none⟩ v6).heap[g]?=some (.cells #[v0,v1,v2,v3,v4,v5,v6,a7] T (0,0)):=heap_setCell_same _ _ 6 _ _ _ h5
 have h7:((((((((w.setCell ⟨g,0,none⟩ v0).setCell ⟨g,1,none⟩ v1).setCell ⟨g,2,none⟩ v2).setCell ⟨g,3,none⟩ v3).setCell ⟨g,4,none⟩ v4).setCell ⟨g,5,none⟩ v5).setCell ⟨g,6,none⟩ v6).setCell ⟨g,7,none⟩ v7).heap[g]?=some (.cells #[v0,v1,v2,v3,v4,v5,v6,v7] T (0,0)):=heap_setCell_same _ _ 7 _ _ _ h6
 exact h7
theorem qin {w:World} {g k:Nat} (hk:k≠g) (v0 v1 v2 v3 v4 v5 v6 v7:Value):((((((((w.setCell ⟨g,0,none⟩ v0).setCell ⟨g,1,none⟩ v1).setCell ⟨g,2,none⟩ v2).setCell ⟨g,3,none⟩ v3).setCell ⟨g,4,none⟩ v4).setCell ⟨g,5,none⟩ v5).setCell ⟨g,6,none⟩ v6).setCell ⟨g,7,none⟩ v7).heap[k]?=w.heap[k]?:=by
 have h:∀(x:World) (j:Nat) (v:Value),(x.setCell ⟨g,j,none⟩ v).heap[k]?=x.heap[k]?:=fun x j v=>Below.heap_setCell _ _ _ _ hk
 rw[h,h,h,h,h,h,h,h]
theorem qi8 {B:Nat} {a w:World} {g:Nat} (h:Below B a w) (hg:B≤g) (v0 v1 v2 v3 v4 v5 v6 v7:Value):Below B a ((((((((w.setCell ⟨g,0,none⟩ v0).setCell ⟨g,1,none⟩ v1).setCell ⟨g,2,none⟩ v2).setCell ⟨g,3,none⟩ v3).setCell ⟨g,4,none⟩ v4).setCell ⟨g,5,none⟩ v5).setCell ⟨g,6,none⟩ v6).setCell ⟨g,7,none⟩ v7):=
 (((((((h.setCell (p:=⟨g,0,none⟩) hg _).setCell (p:=⟨g,1,none⟩) hg _).setCell (p:=⟨g,2,none⟩) hg _).setCell (p:=⟨g,3,none⟩) hg _).setCell (p:=⟨g,4,none⟩) hg _).setCell (p:=⟨g,5,none⟩) hg _).setCell (p:=⟨g,6,none⟩) hg _).setCell (p:=⟨g,7,none⟩) hg _
theorem qp9 {B g b:Nat} {x:World} {vv dv:Value} {e:Pl.Ev} (hB:B≤g) (hb:B≤b) (hg:x.heap[g]?=some (.cells #[vv,.int .i64 e.depth,.int .i64 e.room,.slice (some ⟨b,0,none⟩) 1 1,.int .i64 0,.pointer none,.slice none 0 0,.slice none 0 0] 155 (0,0))) (hbk:x.heap[b]?=some (.cells #[dv,.int .i64 0] 147 (0,0))) :
  WrAt x B g vv dv e [some 0] ⟨[],[],0⟩:=by
 refine⟨.slice (some ⟨b,0,none⟩) 1 1,.slice none 0 0,.pointer none,.slice none 0 0,⟨hB,hg,⟨rfl,.inl ⟨rfl,rfl⟩⟩,.inl rfl,fun _=>rfl⟩,⟨rfl,.inr ⟨b,1,_,rfl,hb,hbk,Nat.le_refl _,by unfold maxLen; omega,rfl,rfl⟩⟩,⟨rfl,.inl ⟨rfl,rfl⟩⟩⟩
set_option maxRecDepth 100000 in
set_option maxHeartbeats 6400000 in
theorem q3i {w0:World} {vv dv:Value} {e:Pl.Ev} {M:Nat} (hE:Evm w0 vv dv e M) (hv0:0<e.vis.length) (r:Pl.Wt×Int) (hr:e.page=r) :
  Calls Tryz.prog 36 #[.agg #[vv],dv,.int .i64 e.depth,.int .i64 e.room] w0 fun ed w'=>∃ hvv,ed=.returned (.tuple #[bs r.1.out,hvv,.int .i64 r.2])∧(r.2≠0→hvv=.slice none 0 0)∧(r.2=0→w'.ownsRow w0.heap.size 55 3 hvv r.1.holes.length (qge r.1.holes))∧Below w0.heap.size w0 w':=by
 obtain⟨bv,vcap,rfl,_,_⟩:=id hE.vis
 obtain⟨da,dcap,rfl,_,_⟩:=id hE.ds
 obtain⟨w1,hw1⟩:∃ w1,w0.alloc (.cells #[.slice (some ⟨bv,0,none⟩) e.vis.length vcap] 77)=w1:=⟨_,rfl⟩
 have hb1:Below w0.heap.size w0 w1:=by rw[← hw1]; exact(Below.refl _ _).alloc (Nat.le_refl _) _
 have k0:w1.cell? ⟨w0.heap.size,0,none⟩=some (.slice (some ⟨bv,0,none⟩) e.vis.length vcap):=by rw[← hw1]; exact qaa (heap_alloc_new w0 _) 0 _ rfl
 have hsz:w0.heap.size<w1.heap.size:=qh1 k0
 obtain⟨s,hs⟩:∃ s,w0.heap.size=s:=⟨_,rfl⟩
 obtain⟨hT,HT⟩:∃ R,Hid (R=fun(g:Nat) (w2:World)=>Calls Tryz.prog 60 #[.pointer (some ⟨g,0,none⟩),.int .i64 0,.int .i64 0] w2 fun ed w3=>ed=.returned (.int .i64 r.2)∧Hid ((∃ K',WrAt w3 w0.heap.size g (.slice (some ⟨bv,0,none⟩) e.vis.length vcap) (.slice da e.D.length dcap) e K' r.1)∧Below w0.heap.size w0 w3)):=⟨_,rfl⟩
 have HC:∀ g w2,Below w0.heap.size w0 w2→WrAt w2 w0.heap.size g (.slice (some ⟨bv,0,none⟩) e.vis.length vcap) (.slice da e.D.length dcap) e [some 0] ⟨[],[],0⟩→hT g w2:=fun g w2 hb hw=>by
  rw[HT.out]
  have hst:Wst w0 g (.slice (some ⟨bv,0,none⟩) e.vis.length vcap) (.slice da e.D.length dcap) e M [some 0] ⟨[],[],0⟩ w2:=⟨hb,hw,⟨by decide,Nat.zero_le _,Nat.zero_le _,by rcases Int.lt_or_le e.room 0 with h | h; exact .inl h; exact .inr h⟩,by simp⟩
  refine(qry hE (q0u hE 5002) 0 hv0 0 [some 0] ⟨[],[],0⟩ w2 (by decide) (by decide) hst (by decide) (by decide)).mono ?_
  intro ed w3 hO
  have hr2:e.run 5002 0 0 (e.parts 0).length 0 [some 0] ⟨[],[],0⟩=r:=hr
  rw[hr2]at hO
  obtain⟨h1,⟨K',h2,_⟩,h3⟩:=hO
  exact⟨h1,⟨K',h2⟩,hb.trans h3.below⟩
 go_enter Tryz.func36,Tryz.ntmps36
 go_wp2
 refine Code.wp_mono (Q:=fun ex a' w'=>ex=.normal∧∃ g bb,a'={ tmps:=#[.agg #[.slice (some ⟨bv,0,none⟩) e.vis.length vcap],.slice da e.D.length dcap,.int .i64 e.depth,.int .i64 e.room,.pointer (some ⟨s,0,none⟩),undef,undef,undef,.string ⟨#[]⟩,.slice none 0 0,.int .i64 0,.pointer (some ⟨g,0,none⟩),undef,.pointer (some ⟨s,0,none⟩),.slice (some ⟨bv,0,none⟩) e.vis.length vcap,.int .i64 e.depth,.int .i64 e.room,.slice da e.D.length dcap,.agg #[.slice da e.D.length dcap,.int .i64 0],.slice (some ⟨bb,0,none⟩) 1 1,.agg #[.slice (some ⟨bv,0,none⟩) e.vis.length vcap,.int .i64 e.depth,.int .i64 e.room,.slice (some ⟨bb,0,none⟩) 1 1,.int .i64 0,.pointer none,.slice none 0 0,.slice none 0 0],undef,undef,undef,undef,undef,undef,undef,undef,undef,undef],defers:=[] }∧WrAt w' w0.heap.size g (.slice (some ⟨bv,0,none⟩) e.vis.length vcap) (.slice da e.D.length dcap) e [some 0] ⟨[],[],0⟩∧Below w0.heap.size w0 w') (fun ex a' w2 hm=>?rest) ?reg
 case reg=>
  have hE1:Enters Tryz.prog 59:=enters_of Tryz.func59 (by kernel_rfl) rfl
  have hd0:Below w1.heap.size w1 w1.drew:=(Below.refl _ _).drew
  rw[hs]at k0
  have hsl:s<w1.heap.size:=by rw[← hs]; exact hsz
  have hSf:∀ x,Below w1.heap.size w1 x→x.cell? ⟨s,0,none⟩=some (.slice (some ⟨bv,0,none⟩) e.vis.length vcap):=fun x hx=>(hx.cell (p:=⟨s,0,none⟩) hsl).trans k0
  refine wp_region_held_drew (S:=fun x=>x.cell? ⟨s,0,none⟩=some (.slice (some ⟨bv,0,none⟩) e.vis.length vcap)) (by kernel_rfl) k0 (fun hS=>?_)
  clear HC HT hv0 hr
  refine qa4 (i:=0) (.pointer (some ⟨s,0,none⟩)) rfl (by kernel_rfl) (by kernel_rfl) (by kernel_rfl) (fun _ _ _ h=>by cases h.1) rfl (fun X hx=>?_) hS ?_
  ·have x1:X.cell? ⟨s,0,none⟩=some (.slice (some ⟨bv,0,none⟩) e.vis.length vcap):=hx
   go_simp
  refine qa4 (i:=1) (.slice (some ⟨bv,0,none⟩) e.vis.length vcap) rfl (by kernel_rfl) (by kernel_rfl) (by kernel_rfl) (fun _ _ _ h=>by cases h.1) rfl (fun X hx=>?_) hS ?_
  ·have x1:X.cell? ⟨s,0,none⟩=some (.slice (some ⟨bv,0,none⟩) e.vis.length vcap):=hx
   go_simp
  refine qa4 (i:=2) (.int .i64 e.depth) rfl (by kernel_rfl) (by kernel_rfl) (by kernel_rfl) (fun _ _ _ h=>by cases h.1) rfl (fun X hx=>?_) hS ?_
  ·have x1:X.cell? ⟨s,0,none⟩=some (.slice (some ⟨bv,0,none⟩) e.vis.length vcap):=hx
   go_simp
  refine qa4 (i:=3) (.int .i64 e.room) rfl (by kernel_rfl) (by kernel_rfl) (by kernel_rfl) (fun _ _ _ h=>by cases h.1) rfl (fun X hx=>?_) hS ?_
  ·have x1:X.cell? ⟨s,0,none⟩=some (.slice (some ⟨bv,0,none⟩) e.vis.length vcap):=hx
   go_simp
  refine qa4 (i:=4) (.slice da e.D.length dcap) rfl (by kernel_rfl) (by kernel_rfl) (by kernel_rfl) (fun _ _ _ h=>by cases h.1) rfl (fun X hx=>?_) hS ?_
  ·have x1:X.cell? ⟨s,0,none⟩=some (.slice (some ⟨bv,0,none⟩) e.vis.length vcap):=hx
   go_simp
  refine wpAnyH_ready (rs:=[5,8]) (by kernel_rfl) (by simp) (AllReadyH.cons rfl (fun K' hK'=>?_) (AllReadyH.cons rfl (fun K' hK'=>?_) AllReadyH.nil))
  ·skip
   refine qf6 rfl 59 #[.tmp 17] #[44] rfl hE1 (fun v' x=>v'=.agg #[.slice da e.D.length dcap,.int .i64 0]∧Below w1.heap.size w1 x) #[.slice da e.D.length dcap] (by simp[Act.eval,Act.put]) ((qrx da e.D.length dcap w1.drew).mono ?_) ?_
   ·rintro e2 x' ⟨rfl,hx⟩
    exact⟨_,rfl,rfl,hd0.trans hx⟩
   rintro _ x ⟨rfl,hx⟩
   refine hK'.out _ _ (hSf x hx) (fun hS=>?_)
   clear hK' K'
   have hxs:=hx.size
   refine wpAnyH_ready (rs:=[6,8]) (by kernel_rfl) (by simp) (AllReadyH.cons rfl (fun K' hK'=>?_) (AllReadyH.cons rfl (fun K' hK'=>?_) AllReadyH.nil))
   ·go_simp
    refine hK'.out _ _ (hSf _ (hx.alloc hxs (.cells #[.slice da e.D.length dcap,.int .i64 0] 147))) (fun hS=>?_)
    clear hK' K'
    refine qa4 (i:=7) (.agg #[.slice (some ⟨bv,0,none⟩) e.vis.length vcap,.int .i64 e.depth,.int .i64 e.room,.slice (some ⟨x.heap.size,0,none⟩) 1 1,.int .i64 0,.pointer none,.slice none 0 0,.slice none 0 0]) rfl (by kernel_rfl) (by kernel_rfl) (by kernel_rfl) (fun _ _ _ h=>by cases h.1) rfl (fun X hx=>?_) hS ?_
    ·have x1:X.cell? ⟨s,0,none⟩=some (.slice (some ⟨bv,0,none⟩) e.vis.length vcap):=hx
     go_simp
    refine wpAnyH_ready (rs:=[8]) (by kernel_rfl) (by simp) (AllReadyH.cons rfl (fun K' hK'=>?_) AllReadyH.nil)
    go_simp
    refine hK'.out _ _ (hSf _ ((hx.alloc hxs _).alloc (by rw[qbd]; omega) _)) (fun hS=>?_)
    clear hK' K'
    refine wpAnyH_ready (rs:=[9]) (by kernel_rfl) (by simp) (AllReadyH.cons rfl (fun K' hK'=>?_) AllReadyH.nil)
    go_simp
    have hbX:=(hx.alloc hxs (.cells #[.slice da e.D.length dcap,.int .i64 0] 147)).alloc (by rw[qbd]; omega) (.cells #[.slice (some ⟨bv,0,none⟩) e.vis.length vcap,.int .i64 e.depth,.int .i64 e.room,.slice (some ⟨x.heap.size,0,none⟩) 1 1,.int .i64 0,.pointer none,.slice none 0 0,.slice none 0 0] 155)
    refine hK'.out _ _ (hSf _ hbX) (fun hS=>?_)
    refine wpAnyH_done (by kernel_rfl) ?_ _
    exact⟨rfl,_,_,rfl,qp9 (by omega) (by omega) (qvj x _ _) ((((Below.refl _ (x.alloc _)).alloc (Nat.le_refl _) _).block _ (by rw[qbd]; omega)).trans (heap_alloc_new x _)),hb1.trans (hbX.mono (by omega))⟩
   ·go_simp
    refine hK'.out _ _ (hSf _ (hx.alloc hxs (.cells #[.slice none 0 0,.int .i64 0,.int .i64 0,.slice none 0 0,.int .i64 0,.pointer none,.slice none 0 0,.slice none 0 0] 155))) (fun hS=>?_)
    clear hK' K'
    refine wpAnyH_ready (rs:=[6]) (by kernel_rfl) (by simp) (AllReadyH.cons rfl (fun K' hK'=>?_) AllReadyH.nil)
    go_simp
    refine hK'.out _ _ (hSf _ ((hx.alloc hxs _).alloc (by rw[qbd]; omega) _)) (fun hS=>?_)
    clear hK' K'
    refine qa4 (i:=7) (.agg #[.slice (some ⟨bv,0,none⟩) e.vis.length vcap,.int .i64 e.depth,.int .i64 e.room,.slice (some ⟨x.heap.size+1,0,none⟩) 1 1,.int .i64 0,.pointer none,.slice none 0 0,.slice none 0 0]) rfl (by kernel_rfl) (by kernel_rfl) (by kernel_rfl) (fun _ _ _ h=>by cases h.1) rfl (fun X hx=>?_) hS ?_
    ·have x1:X.cell? ⟨s,0,none⟩=some (.slice (some ⟨bv,0,none⟩) e.vis.length vcap):=hx
     go_simp
    have hgb:((x.alloc (.cells #[.slice none 0 0,.int .i64 0,.int .i64 0,.slice none 0 0,.int .i64 0,.pointer none,.slice none 0 0,.slice none 0 0] 155)).alloc (.cells #[.slice da e.D.length dcap,.int .i64 0] 147)).heap[x.heap.size]?=some (.cells #[.slice none 0 0,.int .i64 0,.int .i64 0,.slice none 0 0,.int .i64 0,.pointer none,.slice none 0 0,.slice none 0 0] 155 (0,0)):=(((Below.refl _ (x.alloc _)).alloc (Nat.le_refl _) _).block _ (by rw[qbd]; omega)).trans (heap_alloc_new x _)
    have hpb:((x.alloc (.cells #[.slice none 0 0,.int .i64 0,.int .i64 0,.slice none 0 0,.int .i64 0,.pointer none,.slice none 0 0,.slice none 0 0] 155)).alloc (.cells #[.slice da e.D.length dcap,.int .i64 0] 147)).heap[x.heap.size+1]?=some (.cells #[.slice da e.D.length dcap,.int .i64 0] 147 (0,0)):=qvj x _ _
    have hbX:=(hx.alloc hxs (.cells #[.slice none 0 0,.int .i64 0,.int .i64 0,.slice none 0 0,.int .i64 0,.pointer none,.slice none 0 0,.slice none 0 0] 155)).alloc (by rw[qbd]; omega) (.cells #[.slice da e.D.length dcap,.int .i64 0] 147)
    have hgX:w1.heap.size≤x.heap.size:=hxs
    have hne:x.heap.size+1≠x.heap.size:=by omega
    obtain⟨Y,hY⟩:∃ Y,(x.alloc (.cells #[.slice none 0 0,.int .i64 0,.int .i64 0,.slice none 0 0,.int .i64 0,.pointer none,.slice none 0 0,.slice none 0 0] 155)).alloc (.cells #[.slice da e.D.length dcap,.int .i64 0] 147)=Y:=⟨_,rfl⟩
    rw[hY]at hgb hpb hbX ⊢
    have z0:=qaa hgb 0 _ rfl
    have y0:(Y).frozen? ⟨x.heap.size,0,none⟩=false:=by simp[World.frozen?,hgb]
    have z1:=qaa hgb 1 _ rfl
    have y1:(Y).frozen? ⟨x.heap.size,1,none⟩=false:=by simp[World.frozen?,hgb]
    have z2:=qaa hgb 2 _ rfl
    have y2:(Y).frozen? ⟨x.heap.size,2,none⟩=false:=by simp[World.frozen?,hgb]
    have z3:=qaa hgb 3 _ rfl
    have y3:(Y).frozen? ⟨x.heap.size,3,none⟩=false:=by simp[World.frozen?,hgb]
    have z4:=qaa hgb 4 _ rfl
    have y4:(Y).frozen? ⟨x.heap.size,4,none⟩=false:=by simp[World.frozen?,hgb]
    have z5:=qaa hgb 5 _ rfl
    have y5:(Y).frozen? ⟨x.heap.size,5,none⟩=false:=by simp[World.frozen?,hgb]
    have z6:=qaa hgb 6 _ rfl
    have y6:(Y).frozen? ⟨x.heap.size,6,none⟩=false:=by simp[World.frozen?,hgb]
    have z7:=qaa hgb 7 _ rfl
    have y7:(Y).frozen? ⟨x.heap.size,7,none⟩=false:=by simp[World.frozen?,hgb]
    refine wpAnyH_ready (rs:=[9]) (by kernel_rfl) (by simp) (AllReadyH.cons rfl (fun K' hK'=>?_) AllReadyH.nil)
    go_simp
    refine hK'.out _ _ (hSf _ (qi8 hbX hgX _ _ _ _ _ _ _ _)) (fun hS=>?_)
    refine wpAnyH_done (by kernel_rfl) ?_ _
    exact⟨rfl,_,_,rfl,qp9 (by omega) (by omega) (qte hgb _ _ _ _ _ _ _ _) ((qin hne _ _ _ _ _ _ _ _).trans hpb),hb1.trans ((qi8 hbX hgX _ _ _ _ _ _ _ _).mono (by omega))⟩
  ·go_simp
   refine hK'.out _ _ (hSf _ (hd0.alloc (Nat.le_refl _) (.cells #[.slice none 0 0,.int .i64 0,.int .i64 0,.slice none 0 0,.int .i64 0,.pointer none,.slice none 0 0,.slice none 0 0] 155))) (fun hS=>?_)
   clear hK' K'
   refine wpAnyH_ready (rs:=[5]) (by kernel_rfl) (by simp) (AllReadyH.cons rfl (fun K' hK'=>?_) AllReadyH.nil)
   refine qf6 rfl 59 #[.tmp 17] #[44] rfl hE1 (fun v' x=>v'=.agg #[.slice da e.D.length dcap,.int .i64 0]∧Below w1.heap.size w1 x∧x.heap[w1.heap.size]?=some (.cells #[.slice none 0 0,.int .i64 0,.int .i64 0,.slice none 0 0,.int .i64 0,.pointer none,.slice none 0 0,.slice none 0 0] 155 (0,0))∧w1.heap.size<x.heap.size) #[.slice da e.D.length dcap] (by simp[Act.eval]) ((qrx da e.D.length dcap (w1.alloc (.cells #[.slice none 0 0,.int .i64 0,.int .i64 0,.slice none 0 0,.int .i64 0,.pointer none,.slice none 0 0,.slice none 0 0] 155)).drew).mono ?_) ?_
   ·rintro e2 x' ⟨rfl,hx⟩
    have hq:w1.heap.size<(w1.alloc (.cells #[.slice none 0 0,.int .i64 0,.int .i64 0,.slice none 0 0,.int .i64 0,.pointer none,.slice none 0 0,.slice none 0 0] 155)).drew.heap.size:=by show _<(w1.alloc _).heap.size; rw[qbd]; omega
    exact⟨_,rfl,rfl,(hd0.alloc (Nat.le_refl _) (.cells #[.slice none 0 0,.int .i64 0,.int .i64 0,.slice none 0 0,.int .i64 0,.pointer none,.slice none 0 0,.slice none 0 0] 155)).trans (hx.mono (Nat.le_of_lt hq)),(hx.block _ hq).trans (heap_alloc_new w1 _),Nat.lt_of_lt_of_le hq hx.size⟩
   rintro _ x ⟨rfl,hx,hxg,hxl⟩
   refine hK'.out _ _ (hSf x hx) (fun hS=>?_)
   clear hK' K'
   refine wpAnyH_ready (rs:=[6]) (by kernel_rfl) (by simp) (AllReadyH.cons rfl (fun K' hK'=>?_) AllReadyH.nil)
   go_simp
   refine hK'.out _ _ (hSf _ (hx.alloc hx.size (.cells #[.slice da e.D.length dcap,.int .i64 0] 147))) (fun hS=>?_)
   clear hK' K'
   refine qa4 (i:=7) (.agg #[.slice (some ⟨bv,0,none⟩) e.vis.length vcap,.int .i64 e.depth,.int .i64 e.room,.slice (some ⟨x.heap.size,0,none⟩) 1 1,.int .i64 0,.pointer none,.slice none 0 0,.slice none 0 0]) rfl (by kernel_rfl) (by kernel_rfl) (by kernel_rfl) (fun _ _ _ h=>by cases h.1) rfl (fun X hx=>?_) hS ?_
   ·have x1:X.cell? ⟨s,0,none⟩=some (.slice (some ⟨bv,0,none⟩) e.vis.length vcap):=hx
    go_simp
   have hgb:(x.alloc (.cells #[.slice da e.D.length dcap,.int .i64 0] 147)).heap[w1.heap.size]?=some (.cells #[.slice none 0 0,.int .i64 0,.int .i64 0,.slice none 0 0,.int .i64 0,.pointer none,.slice none 0 0,.slice none 0 0] 155 (0,0)):=(((Below.refl _ x).alloc (Nat.le_refl _) _).block _ hxl).trans hxg
   have hpb:(x.alloc (.cells #[.slice da e.D.length dcap,.int .i64 0] 147)).heap[x.heap.size]?=some (.cells #[.slice da e.D.length dcap,.int .i64 0] 147 (0,0)):=heap_alloc_new x _
   have hbX:=hx.alloc hx.size (.cells #[.slice da e.D.length dcap,.int .i64 0] 147)
   have hgX:w1.heap.size≤w1.heap.size:=Nat.le_refl _
   have hne:x.heap.size≠w1.heap.size:=by omega
   obtain⟨Y,hY⟩:∃ Y,x.alloc (.cells #[.slice da e.D.length dcap,.int .i64 0] 147)=Y:=⟨_,rfl⟩
   rw[hY]at hgb hpb hbX ⊢
   have z0:=qaa hgb 0 _ rfl
   have y0:(Y).frozen? ⟨w1.heap.size,0,none⟩=false:=by simp[World.frozen?,hgb]
   have z1:=qaa hgb 1 _ rfl
   have y1:(Y).frozen? ⟨w1.heap.size,1,none⟩=false:=by simp[World.frozen?,hgb]
   have z2:=qaa hgb 2 _ rfl
   have y2:(Y).frozen? ⟨w1.heap.size,2,none⟩=false:=by simp[World.frozen?,hgb]
   have z3:=qaa hgb 3 _ rfl
   have y3:(Y).frozen? ⟨w1.heap.size,3,none⟩=false:=by simp[World.frozen?,hgb]
   have z4:=qaa hgb 4 _ rfl
   have y4:(Y).frozen? ⟨w1.heap.size,4,none⟩=false:=by simp[World.frozen?,hgb]
   have z5:=qaa hgb 5 _ rfl
   have y5:(Y).frozen? ⟨w1.heap.size,5,none⟩=false:=by simp[World.frozen?,hgb]
   have z6:=qaa hgb 6 _ rfl
   have y6:(Y).frozen? ⟨w1.heap.size,6,none⟩=false:=by simp[World.frozen?,hgb]
   have z7:=qaa hgb 7 _ rfl
   have y7:(Y).frozen? ⟨w1.heap.size,7,none⟩=false:=by simp[World.frozen?,hgb]
   refine wpAnyH_ready (rs:=[9]) (by kernel_rfl) (by simp) (AllReadyH.cons rfl (fun K' hK'=>?_) AllReadyH.nil)
   go_simp
   refine hK'.out _ _ (hSf _ (qi8 hbX hgX _ _ _ _ _ _ _ _)) (fun hS=>?_)
   refine wpAnyH_done (by kernel_rfl) ?_ _
   exact⟨rfl,_,_,rfl,qp9 (by omega) (by omega) (qte hgb _ _ _ _ _ _ _ _) ((qin hne _ _ _ _ _ _ _ _).trans hpb),hb1.trans ((qi8 hbX hgX _ _ _ _ _ _ _ _).mono (by omega))⟩
 case rest=>
  obtain⟨rfl,g,bb,rfl,hw,hb2⟩:=hm
  have ht:=HC g w2 hb2 hw
  rw[HT.out]at ht
  clear HC HT hv0 hw hb2 k0 hb1 hw1 hsz hs
  by_cases hz:r.2=0
  ·have HTx:Hid (Calls Tryz.prog 60 #[.pointer (some ⟨g,0,none⟩),.int .i64 0,.int .i64 0] w2 fun ed w3=>ed=.returned (.int .i64 0)∧Hid (∃ ho hn hcap,w3.cell? ⟨g,7,none⟩=some (.slice ho hn hcap)∧Hid (Calls Tryz.prog 61 #[.pointer (some ⟨g,5,none⟩)] w3.drew fun ed w4=>ed=.returned (.string ⟨r.1.out.toArray⟩)∧w4.cell? ⟨g,7,none⟩=some (.slice ho hn hcap)∧Hid (w4.ownsRow w0.heap.size 55 3 (.slice ho hn hcap) r.1.holes.length (qge r.1.holes)∧Below w0.heap.size w0 w4)))):=by
    refine ht.mono ?_
    rintro ed w3 ⟨rfl,H3⟩
    obtain⟨⟨K',sv,hv,bp,bvv,hq⟩,hb3⟩:=H3.out
    have hfm:∃ ho hn hcap,hv=.slice ho hn hcap:=by
     rcases hq.ho.2 with ⟨h1,_⟩ | ⟨b,cap,cur,h1,_⟩
     ·exact⟨_,_,_,h1⟩
     ·exact⟨_,_,_,h1⟩
    obtain⟨ho,hn,hcap,rfl⟩:=hfm
    have c7:=hq.wb.all.2.2.2.2.2.1
    refine⟨by rw[hz],ho,hn,hcap,c7,(qwk w3.drew w0.heap.size g _ _ _ _ _ _ _ _ _ hq.wb.drew).mono ?_⟩
    rintro ed w4 ⟨rfl,h1,h2,h3⟩
    exact⟨rfl,(World.cell?_of_block (a:=⟨g,7,none⟩) h3).trans c7,qqn (w:=w3.drew) hq.ho (by decide) (show w3.drew.heap[g]?=_ from hq.wb.blk) (by decide) h2,(hb3.drew).trans h1⟩
   clear ht
   go_wp2_with (go_at_call 60; refine Calls.mono HTx.out ?_; rintro ed w3 ⟨rfl,H3⟩)
   obtain⟨ho,hn,hcap,c7,HSt⟩:=H3.out
   have hE2:Enters Tryz.prog 61:=enters_of Tryz.func61 (by kernel_rfl) rfl
   refine Code.wp_mono (Q:=fun ex a' w'=>ex=.normal∧a'={ tmps:=#[.agg #[.slice (some ⟨bv,0,none⟩) e.vis.length vcap],.slice da e.D.length dcap,.int .i64 e.depth,.int .i64 e.room,.pointer (some ⟨s,0,none⟩),undef,undef,undef,.string ⟨r.1.out.toArray⟩,.slice ho hn hcap,.int .i64 0,.pointer (some ⟨g,0,none⟩),.int .i64 0,.pointer (some ⟨s,0,none⟩),.slice (some ⟨bv,0,none⟩) e.vis.length vcap,.int .i64 e.depth,.int .i64 e.room,.slice da e.D.length dcap,.agg #[.slice da e.D.length dcap,.int .i64 0],.slice (some ⟨bb,0,none⟩) 1 1,.agg #[.slice (some ⟨bv,0,none⟩) e.vis.length vcap,.int .i64 e.depth,.int .i64 e.room,.slice (some ⟨bb,0,none⟩) 1 1,.int .i64 0,.pointer none,.slice none 0 0,.slice none 0 0],.int .i64 0,.int .i64 0,.bool false,undef,undef,undef,.pointer (some ⟨g,5,none⟩),.string ⟨r.1.out.toArray⟩,.pointer (some ⟨g,7,none⟩),.slice ho hn hcap],defers:=[] }∧Hid (w'.ownsRow w0.heap.size 55 3 (.slice ho hn hcap) r.1.holes.length (qge r.1.holes)∧Below w0.heap.size w0 w')) (fun ex a' w' hm=>?r2) ?r1
   case r2=>
    obtain⟨rfl,rfl,HX⟩:=hm
    go_wp2
    go_ret3
    exact⟨.slice ho hn hcap,by rw[hz]; rfl,fun h=>absurd hz h,fun _=>HX.out.1,HX.out.2⟩
   refine wp_region_held_drew (S:=fun x=>x.cell? ⟨g,7,none⟩=some (.slice ho hn hcap)) (by kernel_rfl) c7 (fun hS=>?_)
   refine qa4 (i:=0) (.pointer (some ⟨g,5,none⟩)) rfl (by kernel_rfl) (by kernel_rfl) (by kernel_rfl) (fun _ _ _ h=>by cases h.1) rfl (fun X hx=>?_) hS ?_
   ·have x1:X.cell? ⟨g,7,none⟩=some (.slice ho hn hcap):=hx
    go_simp
   refine qa4 (i:=2) (.pointer (some ⟨g,7,none⟩)) rfl (by kernel_rfl) (by kernel_rfl) (by kernel_rfl) (fun _ _ _ h=>by cases h.1) rfl (fun X hx=>?_) hS ?_
   ·have x1:X.cell? ⟨g,7,none⟩=some (.slice ho hn hcap):=hx
    go_simp
   refine qa4 (i:=3) (.slice ho hn hcap) rfl (by kernel_rfl) (by kernel_rfl) (by kernel_rfl) (fun _ _ _ h=>by cases h.1) rfl (fun X hx=>?_) hS ?_
   ·have x1:X.cell? ⟨g,7,none⟩=some (.slice ho hn hcap):=hx
    go_simp
   refine wpAnyH_ready (rs:=[1]) (by kernel_rfl) (by simp) (AllReadyH.cons rfl (fun K' hK'=>?_) AllReadyH.nil)
   refine qf6 rfl 61 #[.tmp 27] #[153] rfl hE2 (fun v' x=>v'=.string ⟨r.1.out.toArray⟩∧x.cell? ⟨g,7,none⟩=some (.slice ho hn hcap)∧Hid (x.ownsRow w0.heap.size 55 3 (.slice ho hn hcap) r.1.holes.length (qge r.1.holes)∧Below w0.heap.size w0 x)) #[.pointer (some ⟨g,5,none⟩)] (by simp[Act.eval,Act.put]) (HSt.out.mono ?_) ?_
   ·rintro e2 x' ⟨rfl,h1,h2⟩
    exact⟨_,rfl,rfl,h1,h2⟩
   rintro _ x ⟨rfl,h7,HX⟩
   refine hK'.out _ _ h7 (fun hS=>?_)
   clear hK' K'
   refine qa4 (i:=4) (.string ⟨r.1.out.toArray⟩) rfl (by kernel_rfl) (by kernel_rfl) (by kernel_rfl) (fun _ _ _ h=>by cases h.1) rfl (fun X hx=>?_) hS ?_
   ·have x1:X.cell? ⟨g,7,none⟩=some (.slice ho hn hcap):=hx
    go_simp
   refine qa4 (i:=5) (.slice ho hn hcap) rfl (by kernel_rfl) (by kernel_rfl) (by kernel_rfl) (fun _ _ _ h=>by cases h.1) rfl (fun X hx=>?_) hS ?_
   ·have x1:X.cell? ⟨g,7,none⟩=some (.slice ho hn hcap):=hx
    go_simp
   refine qa4 (i:=6) (.int .i64 0) rfl (by kernel_rfl) (by kernel_rfl) (by kernel_rfl) (fun _ _ _ h=>by cases h.1) rfl (fun X hx=>?_) hS ?_
   ·have x1:X.cell? ⟨g,7,none⟩=some (.slice ho hn hcap):=hx
    go_simp
   refine wpAnyH_done (by kernel_rfl) ?_ _
   exact⟨rfl,rfl,HX.out⟩
  ·have HTx:Hid (Calls Tryz.prog 60 #[.pointer (some ⟨g,0,none⟩),.int .i64 0,.int .i64 0] w2 fun ed w3=>ed=.returned (.int .i64 r.2)∧Hid (Calls Tryz.prog 61 #[.pointer (some ⟨g,5,none⟩)] w3 fun ed w4=>ed=.returned (.string ⟨r.1.out.toArray⟩)∧Hid (Below w0.heap.size w0 w4))):=by
    refine ht.mono ?_
    rintro ed w3 ⟨rfl,H3⟩
    obtain⟨⟨K',sv,hv,bp,bvv,hq⟩,hb3⟩:=H3.out
    refine⟨rfl,(qwk w3 w0.heap.size g _ _ _ _ _ _ _ _ _ hq.wb).mono ?_⟩
    rintro ed w4 ⟨rfl,h1,_⟩
    exact⟨rfl,hb3.trans h1⟩
   clear ht
   go_wp2_with (first
    | (go_at_call 61; refine Calls.mono HSt.out ?_; rintro ed w4 ⟨rfl,HB⟩)
    | (go_at_call 60; refine Calls.mono HTx.out ?_; rintro ed w3 ⟨rfl,HSt⟩))
   go_ret3
   exact⟨_,rfl,fun _=>rfl,fun h=>absurd h hz,HB.out⟩
end Go.Proofs.YtfkhljmiehdgmaaGreatDoor
namespace Go.Proofs.YtfkhljmiehdgmaaGreatDoor.Pl
structure SxFit (x:Sx):Prop where
 ok:SxOk x
 far:0≤x.ma.far∧x.ma.far≤3
theorem qm5:SxFit Sx.start:=⟨qf0,by decide⟩
theorem qq6 (kind:Int) (m:Nat) (far:Int) (b:UInt8) (h:0≤far∧far≤3):0≤qcc kind m far b∧qcc kind m far b≤3:=by
 unfold qcc
 repeat' split
 all_goals omega
theorem qmc:(0:Int)≤Mk.none.far∧Mk.none.far≤3:=by decide
theorem qq8 (m:Nat) (e:Bool) (b:UInt8):0≤(qby m e b).far∧(qby m e b).far≤3:=by
 unfold qby
 split
 ·exact qmc
 ·split
  ·exact⟨Int.le_refl _,by simp⟩
  ·exact qmc
theorem qua (s:St) (k:Mk) (b:UInt8) (h:0≤k.far∧k.far≤3):0≤(qee s k b).far∧(qee s k b).far≤3:=by
 unfold qee qjq qcq
 split
 ·exact qmc
 ·split
  ·exact qq8 _ _ _
  ·split
   ·unfold qam
    simp only
    split
    ·exact qq6 _ _ _ _ h
    ·omega
   ·exact qmc
theorem qzo {x:Sx} (b:UInt8) (h:SxFit x):SxFit (x.behind b):=⟨qmx b h.ok,qua _ _ b h.far⟩
theorem qi3 (l:List UInt8):∀ x:Sx,SxFit x→SxFit (qau x l):=by
 induction l with
 | nil=>intro x h; exact h
 | cons b l ih=>intro x h; exact ih _ (qzo b h)
theorem qmd {x:Sx} (h:SxFit x):SxFit x.behindHole:=by
 refine⟨qh4 x h.ok,?_⟩
 unfold Sx.behindHole
 split
 ·exact⟨by simp,by simp⟩
 ·exact h.far
def qrv (x:Sx):Prop:=x=Sx.none∨SxFit x
theorem qn5 {x:Sx} (h:qrv x) (hn:¬ x.isNone=true):SxFit x:=by
 rcases h with rfl | h
 ·exact absurd rfl hn
 ·exact h
section
variable {α:Type}
theorem qf3 {l:List (En×α)} {e:En} {v:α} (h:qa7 l e=some v):(e,v)∈l:=by
 induction l with
 | nil=>cases h
 | cons p l ih=>
   obtain⟨k,u⟩:=p
   unfold qa7 at h
   split at h
   ·rename_i hk
    injection h with h
    subst h hk
    simp
   ·exact List.mem_cons_of_mem _ (ih h)
theorem qjx {l:List (En×α)} {e:En} (h:qa7 l e=Option.none):∀ p∈l,p.1≠e:=by
 induction l with
 | nil=>intro p hp; cases hp
 | cons p l ih=>
   obtain⟨k,u⟩:=p
   unfold qa7 at h
   split at h
   ·cases h
   ·rename_i hk
    intro q hq
    rcases List.mem_cons.1 hq with rfl | hq
    ·exact hk
    ·exact ih h q hq
theorem qem {l:List (En×α)} {e:En} (h:qa7 l e=Option.none) (v:α):qbg l e v=l++[(e,v)]:=by
 induction l with
 | nil=>rfl
 | cons p l ih=>
   obtain⟨k,u⟩:=p
   unfold qa7 at h
   split at h
   ·cases h
   ·rename_i hk
    unfold qbg
    rw[if_neg hk,ih h]; rfl
theorem qha {l:List (En×α)} {e:En} {u:α} (h:qa7 l e=some u) (v:α):∃ i,l[i]?=some (e,u)∧qbg l e v=l.set i (e,v):=by
 induction l with
 | nil=>cases h
 | cons p l ih=>
   obtain⟨k,w⟩:=p
   unfold qa7 at h
   split at h
   ·rename_i hk
    injection h with h
    subst h hk
    refine⟨0,rfl,?_⟩
    unfold qbg
    rw[if_pos rfl]; rfl
   ·rename_i hk
    obtain⟨i,h1,h2⟩:=ih h
    refine⟨i+1,by simpa using h1,?_⟩
    unfold qbg
    rw[if_neg hk,h2]; rfl
theorem qf2 (l:List (En×α)) (e:En) (v:α) (e':En):qa7 (qbg l e v) e'=if e=e' then some v else qa7 l e':=by
 induction l with
 | nil=>rfl
 | cons p l ih=>
   obtain⟨k,u⟩:=p
   unfold qbg
   by_cases hk:k=e
   ·rw[if_pos hk]
    subst hk
    unfold qa7
    split
    ·rfl
    ·rfl
   ·rw[if_neg hk]
    unfold qa7
    rw[ih]
    by_cases h1:k=e'
    ·rw[if_pos h1,if_pos h1,if_neg (fun h=>hk (h1.trans h.symm))]
    ·rw[if_neg h1,if_neg h1]
theorem qpg (l:List (En×α)) (e:En) (v:α):(qbg l e v).length=if qa7 l e=Option.none then l.length+1 else l.length:=by
 split
 ·rename_i h; rw[qem h]; simp
 ·rename_i h
  cases hg:qa7 l e with
  | none=>exact absurd hg h
  | some u=>obtain⟨i,_,h2⟩:=qha hg v; rw[h2]; simp
def qj4 (l:List (En×α)):Prop:=∀(i j:Nat) (p q:En×α),l[i]?=some p→l[j]?=some q→p.1=q.1→i=j
theorem qnu {l:List (En×α)} (h:qj4 l) (e:En) (v:α):qj4 (qbg l e v):=by
 cases hg:qa7 l e with
 | none=>
   rw[qem hg]
   have hn:=qjx hg
   intro i j p q hi hj hpq
   rw[List.getElem?_append]at hi hj
   split at hi<;>split at hj
   ·exact h i j p q hi hj hpq
   ·exfalso
    rename_i h1 h2
    have:j - l.length=0:=by
     have:=(List.getElem?_eq_some_iff.1 hj).1
     simp at this; omega
    rw[this]at hj
    simp at hj
    subst hj
    exact hn p (List.mem_of_getElem? hi) hpq
   ·exfalso
    have:i - l.length=0:=by
     have:=(List.getElem?_eq_some_iff.1 hi).1
     simp at this; omega
    rw[this]at hi
    simp at hi
    subst hi
    exact hn q (List.mem_of_getElem? hj) hpq.symm
   ·have h1:=(List.getElem?_eq_some_iff.1 hi).1
    have h2:=(List.getElem?_eq_some_iff.1 hj).1
    simp at h1 h2
    omega
 | some u=>
   obtain⟨k,h1,h2⟩:=qha hg v
   rw[h2]
   intro i j p q hi hj hpq
   have fix:∀(i:Nat) (p:En×α),(l.set k (e,v))[i]?=some p→∃ p',l[i]?=some p'∧p'.1=p.1:=by
    intro i p hi
    rw[List.getElem?_set]at hi
    split at hi
    ·rename_i hik
     subst hik
     split at hi
     ·injection hi with hi; subst hi; exact⟨_,h1,rfl⟩
     ·cases hi
    ·exact⟨p,hi,rfl⟩
   obtain⟨p',e1,e2⟩:=fix i p hi
   obtain⟨q',e3,e4⟩:=fix j q hj
   exact h i j p' q' e1 e3 (by rw[e2,e4,hpq])
theorem qk5 {l:List (En×α)} {e:En} {v:α} {p:En×α} (h:p∈qbg l e v):p=(e,v)∨p∈l:=by
 cases hg:qa7 l e with
 | none=>rw[qem hg]at h; simp at h; exact h.symm
 | some u=>
   obtain⟨k,h1,h2⟩:=qha hg v
   rw[h2]at h
   rcases List.mem_or_eq_of_mem_set h with h | h
   ·exact .inr h
   ·exact .inl h
end
structure EndsOk (n:Nat) (l:List (En×Sx)):Prop where
 key:∀ p∈l,SxFit p.1.2∧1≤p.1.1∧p.1.1<n
 val:∀ p∈l,qrv p.2
 one:qj4 l
 few:l.length≤256
theorem qzc (n:Nat):EndsOk n []:=⟨fun _ h=>(by cases h),fun _ h=>(by cases h),fun i j p q h=>(by simp at h),by decide⟩
theorem qi4 {n:Nat} {l:List (En×Sx)} (h:EndsOk n l) {e:En} {v:Sx} (he:SxFit e.2∧1≤e.1∧e.1<n) (hv:qrv v) (hf:(qbg l e v).length≤256):EndsOk n (qbg l e v):=
 ⟨fun p hp=>(qk5 hp).elim (fun q=>q▸he) (h.key p),fun p hp=>(qk5 hp).elim (fun q=>q▸hv) (h.val p),qnu h.one e v,hf⟩
theorem qpi (n:List UInt8):∀(l:List Src) (i:Nat),qg1 n i l=0∨(i≤qg1 n i l∧qg1 n i l<i+l.length)
 | [],i=>.inl rfl
 | s::l,i=>by
   unfold qg1
   split
   ·exact .inr ⟨Nat.le_refl _,by simp⟩
   ·rcases qpi n l (i+1)with h | h
    ·exact .inl h
    ·exact .inr ⟨by omega,by simp; omega⟩
theorem qen (S:List Src) (n:List UInt8) (h:qag S n≠0):1≤qag S n∧qag S n<S.length:=by
 unfold qag at h ⊢
 rcases qpi n (S.drop 1) 1 with q | q
 ·exact absurd q h
 ·rw[List.length_drop]at q; omega
structure Grew (n:Nat) (s s':Sr):Prop where
 ok:EndsOk n s'.ends
 more:s.ends.length≤s'.ends.length
 has:∀ e,qa7 s.ends e≠Option.none→qa7 s'.ends e≠Option.none
 nums:s'.nums=s.nums
 vis:s'.vis=s.vis
 fault:s'.fault=s.fault∨s'.fault=qpq
theorem Grew.refl {n:Nat} {s:Sr} (h:EndsOk n s.ends):Grew n s s:=⟨h,Nat.le_refl _,fun _ h=>h,rfl,rfl,.inl rfl⟩
theorem Grew.trans {n:Nat} {a b c:Sr} (h:Grew n a b) (k:Grew n b c):Grew n a c:=
 ⟨k.ok,Nat.le_trans h.more k.more,fun e q=>k.has e (h.has e q),k.nums.trans h.nums,k.vis.trans h.vis,by
  rcases k.fault with q | q
  ·rw[q]; exact h.fault
  ·exact .inr q⟩
def q8n (n:Nat) (beh:Sr→List UInt8→Sx→Sr×Sx) (m:Nat):Prop:=∀ s t x,EndsOk n s.ends→m≤s.ends.length→SxFit x→Grew n s (beh s t x).1∧qrv (beh s t x).2
theorem ql5 {n m:Nat} {beh:Sr→List UInt8→Sx→Sr×Sx} (hb:q8n n beh m) (P:List Pt):∀(k a:Nat) (s:Sr) (x:Sx),EndsOk n s.ends→m≤s.ends.length→qrv x→Grew n s (qdd beh P k a s x).1∧qrv (qdd beh P k a s x).2:=by
 intro k
 induction k with
 | zero=>intro a s x h _ hx; exact⟨Grew.refl h,hx⟩
 | succ k ih=>
   intro a s x h hm hx
   unfold qdd
   by_cases hn:x.isNone=true
   ·rw[if_pos hn]; exact⟨Grew.refl h,hx⟩
   rw[if_neg hn]
   have hf:=qn5 hx hn
   cases hp:P[a]? with
   | none=>exact⟨Grew.refl h,hx⟩
   | some p=>
     simp only
     split
     ·exact ih _ s _ h hm (.inr (qi3 _ _ hf))
     ·split
      ·exact ih _ s _ h hm (.inr (qmd hf))
      ·split
       ·exact ih _ s _ h hm hx
       ·split
        ·obtain⟨h1,h2⟩:=hb s p.text x h hm hf
         obtain⟨h3,h4⟩:=ih (a+1) _ _ h1.ok (Nat.le_trans hm h1.more) h2
         exact⟨h1.trans h3,h4⟩
        ·exact ih _ s _ h hm hx
theorem qqu:qrv Sx.none:=.inl rfl
theorem qiu (S:List Src):∀(k m:Nat),257≤m+k→q8n S.length (behV S k) m:=by
 intro k
 induction k with
 | zero=>
   intro m hm s t x h hl hx
   have:=h.few; omega
 | succ k ih=>
   intro m hm s t x h hl hx
   unfold behV
   by_cases h0:qag S t=0
   ·rw[if_pos h0]; exact⟨Grew.refl h,.inr hx⟩
   rw[if_neg h0]
   have hpl:=qen S t h0
   cases hg:qa7 s.ends (qag S t,x) with
   | some e=>exact⟨Grew.refl h,h.val _ (qf3 hg)⟩
   | none=>
     simp only
     by_cases hfull:s.ends.length=256
     ·rw[if_pos hfull]
      exact⟨⟨h,Nat.le_refl _,fun _ q=>q,rfl,rfl,.inr rfl⟩,qqu⟩
     rw[if_neg hfull]
     have hlen:(qbg s.ends (qag S t,x) Sx.none).length=s.ends.length+1:=by rw[qem hg]; simp
     have hok1:EndsOk S.length (qbg s.ends (qag S t,x) Sx.none):=qi4 h ⟨hx,hpl⟩ qqu (by have:=h.few; omega)
     obtain⟨g1,g2⟩:=ql5 (ih (s.ends.length+1) (by omega)) (qaj S (qag S t)) ((qaj S (qag S t)).length+1) 0 { s with ends:=qbg s.ends (qag S t,x) Sx.none } x hok1 (by show s.ends.length+1≤(qbg _ _ _).length; omega) (.inr hx)
     generalize qdd (behV S k) (qaj S (qag S t)) ((qaj S (qag S t)).length+1) 0 { s with ends:=qbg s.ends (qag S t,x) Sx.none } x=r at g1 g2 ⊢
     have hm1:s.ends.length+1≤r.1.ends.length:=by have:=g1.more; rw[show ({ s with ends:=qbg s.ends (qag S t,x) Sx.none }:Sr).ends.length=s.ends.length+1 from hlen]at this; exact this
     have hhas:qa7 r.1.ends (qag S t,x)≠Option.none:=g1.has _ (by show qa7 (qbg _ _ _) _≠_; rw[qf2,if_pos rfl]; simp)
     have hlen2:(qbg r.1.ends (qag S t,x) r.2).length=r.1.ends.length:=by rw[qpg,if_neg hhas]
     refine⟨⟨qi4 g1.ok ⟨hx,hpl⟩ g2 (by rw[hlen2]; exact g1.ok.few),?_,?_,g1.nums,g1.vis,g1.fault⟩,g2⟩
     ·show s.ends.length≤(qbg _ _ _).length; omega
     ·intro e he
      show qa7 (qbg _ _ _) e≠_
      rw[qf2]
      split
      ·simp
      ·refine g1.has e ?_
       show qa7 (qbg _ _ _) e≠_
       rw[qf2]
       split
       ·simp
       ·exact he
end Go.Proofs.YtfkhljmiehdgmaaGreatDoor.Pl
