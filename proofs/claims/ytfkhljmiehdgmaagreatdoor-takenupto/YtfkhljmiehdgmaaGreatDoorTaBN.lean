/-
  Steps of the proof (texts laid together, blanks left out): PoJ, VkB, ReY, KpA, KpB, PgWM, PgWN, PgWO.
-/
import Derived.Test.YtfkhljmiehdgmaaGreatDoorTaBM
import Derived.Test.YtfkhljmiehdgmaaGreatDoorTaBG
import Derived.Test.YtfkhljmiehdgmaaGreatDoorTaAU
import Derived.Test.YtfkhljmiehdgmaaGreatDoorTaAT
import Derived.Test.YtfkhljmiehdgmaaGreatDoorTaAS
import Derived.Test.YtfkhljmiehdgmaaGreatDoorTaAX
import Derived.Test.YtfkhljmiehdgmaaGreatDoorTaAE
import Derived.Test.YtfkhljmiehdgmaaGreatDoorTaBJ
import Derived.Test.YtfkhljmiehdgmaaGreatDoorTaBL
import Derived.Test.YtfkhljmiehdgmaaGreatDoorTaBI
namespace Go.Proofs.YtfkhljmiehdgmaaGreatDoor
open Go.RowKit Go.Maps
set_option maxRecDepth 100000 in
set_option maxHeartbeats 6400000 in
theorem qoc (HB:qgn):q4v:=by
 intro T v L w hA ht hm hR hRL
 have h1:=fun w1 (hb:Below w.heap.size w w1)=>q3q HB T v L w1 (hA.kept hb) (ht.kept hb) (hm.below hb) hR hRL
 have hn:=q07 T L
 generalize Pl.qbe T.data.toList (qa9 L)=q at h1 hn ⊢
 obtain⟨q1,f⟩:=q
 simp only at h1 hn ⊢
 have H1:=(show Hid _ from h1)
 have HN:=(show Hid _ from hn)
 clear h1 hn hA ht hm hR hRL
 have HR:Hid ((w.alloc (.cells #[.int .i64 0,.int .i64 0,.string ⟨#[]⟩,.int .i64 0] 31)).heap[w.heap.size]?=some (.cells #[.int .i64 0,.int .i64 0,.string ⟨#[]⟩,.int .i64 0] 31 (0,0))):=heap_alloc_new _ _
 have HB1:Hid (Below w.heap.size w (w.alloc (.cells #[.int .i64 0,.int .i64 0,.string ⟨#[]⟩,.int .i64 0] 31))):=(Below.refl _ _).alloc (Nat.le_refl _) _
 go_enter Tryz.func12,Tryz.ntmps12
 go_wp2_with fail
 refine(H1.out _ HB1.out).mono ?_; rintro ed w2 ⟨⟨ao,n,cap,rfl,hx⟩,hb⟩
 rw[qhz]
 have HX:=(show Hid _ from hx)
 have HR2:=(show Hid _ from(hb.block w.heap.size (by simp)).trans HR.out)
 have HB2:=(show Hid _ from HB1.out.trans (hb.mono HB1.out.size))
 clear hx hb HR HB1 H1
 have hlt:w.heap.size<w2.heap.size:=(Array.getElem?_eq_some_iff.1 HR2.out).1
 by_cases hc:f.code=0
 rotate_left
 ·have hc1:((f.code:Int) != 0)=true:=by rw[bne_iff_ne]; omega
  have HC:=(show Hid _ from hc)
  clear hc
  go_wp2_with fail
  have hR4:((w2.alloc (.cells #[.slice ao n cap] 77)).alloc (.cells #[.int .i64 (f.code:Nat),.int .i64 f.kind,.string ⟨f.place.toArray⟩,.int .i64 (f.pos:Nat)] 31)).heap[w.heap.size]?=some (.cells #[.int .i64 0,.int .i64 0,.string ⟨#[]⟩,.int .i64 0] 31 (0,0)):=(heap_alloc_old _ _ (by simp; omega)).trans ((heap_alloc_old _ _ hlt).trans HR2.out)
  have hE4:((w2.alloc (.cells #[.slice ao n cap] 77)).alloc (.cells #[.int .i64 (f.code:Nat),.int .i64 f.kind,.string ⟨f.place.toArray⟩,.int .i64 (f.pos:Nat)] 31)).heap[w2.heap.size+1]?=some (.cells #[.int .i64 (f.code:Nat),.int .i64 f.kind,.string ⟨f.place.toArray⟩,.int .i64 (f.pos:Nat)] 31 (0,0)):=qas _ _ _ (by simp)
  have HB4:=(show Hid _ from(HB2.out.alloc HB2.out.size (.cells #[.slice ao n cap] 77)).alloc (by simp; omega) (.cells #[.int .i64 (f.code:Nat),.int .i64 f.kind,.string ⟨f.place.toArray⟩,.int .i64 (f.pos:Nat)] 31))
  have e1:w2.heap.size+1≠w.heap.size:=by omega
  generalize w2.heap.size+1=E at hE4 e1 ⊢
  generalize World.alloc (World.alloc w2 _) _=w4 at hE4 hR4 HB4 ⊢
  have x0:=qaa hR4 0 _ rfl
  have x1:=qaa hR4 1 _ rfl
  have x2:=qaa hR4 2 _ rfl
  have x3:=qaa hR4 3 _ rfl
  have y0:w4.frozen? ⟨w.heap.size,0,none⟩=false:=by simp[World.frozen?,hR4]
  have y1:w4.frozen? ⟨w.heap.size,1,none⟩=false:=by simp[World.frozen?,hR4]
  have y2:w4.frozen? ⟨w.heap.size,2,none⟩=false:=by simp[World.frozen?,hR4]
  have y3:w4.frozen? ⟨w.heap.size,3,none⟩=false:=by simp[World.frozen?,hR4]
  have l0:=qaa hE4 0 _ rfl
  have l1:=qaa hE4 1 _ rfl
  have l2:=qaa hE4 2 _ rfl
  have l3:=qaa hE4 3 _ rfl
  have HR4:=(show Hid _ from hR4)
  clear hE4 hR4 hlt
  go_region
  all_goals
   go_wp2_with fail
   have hf:=qgh HR4.out (.int .i64 (f.code:Nat)) (.int .i64 f.kind) (.string ⟨f.place.toArray⟩) (.int .i64 (f.pos:Nat))
   have hb:=(((HB4.out.setCell (p:=⟨w.heap.size,0,none⟩) (Nat.le_refl _) (.int .i64 (f.code:Nat))).setCell (p:=⟨w.heap.size,1,none⟩) (Nat.le_refl _) (.int .i64 f.kind)).setCell (p:=⟨w.heap.size,2,none⟩) (Nat.le_refl _) (.string ⟨f.place.toArray⟩)).setCell (p:=⟨w.heap.size,3,none⟩) (Nat.le_refl _) (.int .i64 (f.pos:Nat))
   refine qef Tryz.results12 rfl w.heap.size (.pointer none) _ rfl rfl hf _ Tryz.underlying31 rfl (by kernel_rfl) ?_
   exact⟨⟨_,rfl,fun _=>rfl,fun q=>absurd q HC.out⟩,hb.drew⟩
 ·have hc1:((f.code:Int) != 0)=false:=by rw[hc]; rfl
  have HC:Hid (f=Pl.Ft.none):=HN.out hc
  obtain⟨B,F,M,s,h1,h2,h3⟩:=HX.out hc
  have HSV:=(show Hid _ from h2)
  have HVI:=(show Hid _ from h3)
  have HLE:Hid (w.heap.size≤B):=Nat.le_trans (by simp) h1
  have hR5:∀ o o' o'',(((w2.alloc o).alloc o').alloc o'').heap[w.heap.size]?=some (.cells #[.int .i64 0,.int .i64 0,.string ⟨#[]⟩,.int .i64 0] 31 (0,0)):=fun o o' o''=>(heap_alloc_old _ _ (by simp; omega)).trans ((heap_alloc_old _ _ (by simp; omega)).trans ((heap_alloc_old _ _ hlt).trans HR2.out))
  have x0:=fun o o' o''=>qaa (hR5 o o' o'') 0 _ rfl
  have x1:=fun o o' o''=>qaa (hR5 o o' o'') 1 _ rfl
  have x2:=fun o o' o''=>qaa (hR5 o o' o'') 2 _ rfl
  have x3:=fun o o' o''=>qaa (hR5 o o' o'') 3 _ rfl
  have y0:∀ o o' o'',(((w2.alloc o).alloc o').alloc o'').frozen? ⟨w.heap.size,0,none⟩=false:=fun o o' o''=>by simp[World.frozen?,hR5 o o' o'']
  have y1:∀ o o' o'',(((w2.alloc o).alloc o').alloc o'').frozen? ⟨w.heap.size,1,none⟩=false:=fun o o' o''=>by simp[World.frozen?,hR5 o o' o'']
  have y2:∀ o o' o'',(((w2.alloc o).alloc o').alloc o'').frozen? ⟨w.heap.size,2,none⟩=false:=fun o o' o''=>by simp[World.frozen?,hR5 o o' o'']
  have y3:∀ o o' o'',(((w2.alloc o).alloc o').alloc o'').frozen? ⟨w.heap.size,3,none⟩=false:=fun o o' o''=>by simp[World.frozen?,hR5 o o' o'']
  have HR5:=(show Hid _ from hR5)
  have HLt:=(show Hid _ from hlt)
  clear hc h1 h2 h3 HX hR5 hlt
  go_wp2_with fail
  have hb5:=((((Below.refl w2.heap.size w2).alloc (Nat.le_refl _) (.cells #[.slice ao n cap] 77)).alloc (by simp) (.cells #[.int .i64 (f.code:Nat),.int .i64 f.kind,.string ⟨f.place.toArray⟩,.int .i64 (f.pos:Nat)] 31)).alloc (by simp; omega) (.cells #[.slice ao n cap] 81))
  have hT5:=qas ((w2.alloc (.cells #[.slice ao n cap] 77)).alloc (.cells #[.int .i64 (f.code:Nat),.int .i64 f.kind,.string ⟨f.place.toArray⟩,.int .i64 (f.pos:Nat)] 31)) (.cells #[.slice ao n cap] 81) (w2.heap.size+1+1) (by simp)
  have hR5:=HR5.out (.cells #[.slice ao n cap] 77) (.cells #[.int .i64 (f.code:Nat),.int .i64 f.kind,.string ⟨f.place.toArray⟩,.int .i64 (f.pos:Nat)] 31) (.cells #[.slice ao n cap] 81)
  have hS5:=HSV.out.below hb5
  have hB5:=HB2.out.trans (hb5.mono HB2.out.size)
  have hne:w2.heap.size+1+1≠w.heap.size:=by have:=HLt.out; omega
  clear hb5 x0 x1 x2 x3 y0 y1 y2 y3
  generalize w2.heap.size+1+1=G at hT5 hne ⊢
  generalize World.alloc (World.alloc (World.alloc w2 _) _) _=w5 at hT5 hR5 hS5 hB5 ⊢
  have hf:=qgh hR5 (.int .i64 0) (.int .i64 0) (.string ⟨#[]⟩) (.int .i64 0)
  have hv:=hS5.fault4 hR5 (.int .i64 0) (.int .i64 0) (.string ⟨#[]⟩) (.int .i64 0)
  have hb:=(((hB5.setCell (p:=⟨w.heap.size,0,none⟩) (Nat.le_refl _) (.int .i64 0)).setCell (p:=⟨w.heap.size,1,none⟩) (Nat.le_refl _) (.int .i64 0)).setCell (p:=⟨w.heap.size,2,none⟩) (Nat.le_refl _) (.string ⟨#[]⟩)).setCell (p:=⟨w.heap.size,3,none⟩) (Nat.le_refl _) (.int .i64 0)
  have ht:((((w5.setCell ⟨w.heap.size,0,none⟩ (.int .i64 0)).setCell ⟨w.heap.size,1,none⟩ (.int .i64 0)).setCell ⟨w.heap.size,2,none⟩ (.string ⟨#[]⟩)).setCell ⟨w.heap.size,3,none⟩ (.int .i64 0)).heap[G]?=_:=(Below.heap_setCell _ _ _ _ hne).trans ((Below.heap_setCell _ _ _ _ hne).trans ((Below.heap_setCell _ _ _ _ hne).trans ((Below.heap_setCell _ _ _ _ hne).trans hT5)))
  refine qef Tryz.results12 rfl w.heap.size (.pointer (some ⟨G,0,none⟩)) _ rfl rfl hf _ Tryz.underlying31 rfl (by kernel_rfl) ?_
  refine⟨⟨_,by rw[HC.out]; rfl,fun q=>absurd (by rw[HC.out]; rfl) q,fun _=>⟨G,F,.slice ao n cap,M,s,B,rfl,?_,HLE.out,hv,HVI.out⟩⟩,hb⟩
  exact ht
end Go.Proofs.YtfkhljmiehdgmaaGreatDoor
namespace Go.Proofs.YtfkhljmiehdgmaaGreatDoor
open Go.RowKit
theorem q80 {S:List Pl.Src} {len:Nat} (hS:SrcsOk S) (h:(Pl.qdq S len).2.code=0) (e:Pl.Ev) (he:e.S=S) (hv:e.vis=(Pl.qdq S len).1):e.Ok∧0<e.vis.length∧e.vis.length≤257∧∀ v p,p∈e.parts v→p.text.length≤2000:=by
 obtain⟨s,hk,hs,hth,u0,hu0,_⟩:=Pl.q6a (Nat.le_trans hS.few.1 (Nat.le_refl _)) h
 have hinv:=(Pl.ql6 S 258 Pl.Sr.zero (0,Pl.Sx.start) (qqp hS) (by decide)).1
 have hsz:s=Pl.qdk S 258 Pl.Sr.zero (0,Pl.Sx.start):=hth
 rw[← hsz]at hinv
 have hvs:e.vis=s.vis:=hv.trans hs.symm
 have hlen:s.vis.length≤257:=by
  have h1:=hinv.few
  have h2:=hinv.ends.few
  have h3:=hinv.vis
  omega
 have hpa:∀(v:Nat) (x:Nat×List Int),e.vis[v]?=some x→e.parts v=Pl.qaj S x.1:=fun v x hx=>by
  unfold Pl.Ev.parts Pl.qaj
  rw[hx,he]
  rfl
 have hno:∀(v:Nat),e.vis[v]?=none→e.parts v=[]:=fun v hx=>by unfold Pl.Ev.parts; rw[hx]
 have hsrc:∀(v:Nat) (x:Nat×List Int),e.vis[v]?=some x→∃ a:Pl.Src,S[x.1]?=some a∧Pl.qaj S x.1=a.parts:=fun v x hx=>by
  rw[hvs]at hx
  have h1:=(hk.vis v x hx).1
  exact⟨S[x.1],List.getElem?_eq_getElem h1,by unfold Pl.qaj; rw[List.getElem?_eq_getElem h1]⟩
 refine⟨⟨fun v x hx=>?_,fun v i p hp hkd=>?_,fun v i p hp hkd=>?_,by rw[hvs]; omega,fun v=>?_⟩,by rw[hvs]; have:=(List.getElem?_eq_some_iff.1 hu0).1; omega,by rw[hvs]; exact hlen,fun v p hp=>?_⟩
 ·obtain⟨a,h1,h2⟩:=hsrc v x hx
  rw[hvs]at hx
  have h3:=(hk.vis v x hx).2.1
  rw[h2]at h3
  exact⟨a,by rw[he]; exact h1,h3⟩
 ·cases hx:e.vis[v]? with
  | none=>rw[hno v hx]at hp; simp at hp
  | some x=>
    obtain⟨a,h1,h2⟩:=hsrc v x hx
    rw[hpa v x hx,h2]at hp ⊢
    have:=Pl.q2s (hS.wf _ a h1) i p hp hkd
    omega
 ·cases hx:e.vis[v]? with
  | none=>rw[hno v hx]at hp; simp at hp
  | some x=>
    rw[hpa v x hx]at hp
    have hx2:=hx
    rw[hvs]at hx2
    obtain⟨_,h2,h3⟩:=hk.vis v x hx2
    have hm:e.marks v=x.2:=by unfold Pl.Ev.marks; rw[hx]
    have hi:i<x.2.length:=by rw[h2]; exact(List.getElem?_eq_some_iff.1 hp).1
    rw[hm,List.getD_eq_getElem?_getD,List.getElem?_eq_getElem hi,hvs]
    exact h3 i p _ hp hkd (List.getElem?_eq_getElem hi)
 ·cases hx:e.vis[v]? with
  | none=>rw[hno v hx]; simp
  | some x=>
    obtain⟨a,h1,h2⟩:=hsrc v x hx
    rw[hpa v x hx,h2]
    have:=(hS.parts _ a h1).1
    omega
 ·cases hx:e.vis[v]? with
  | none=>rw[hno v hx]at hp; cases hp
  | some x=>
    obtain⟨a,h1,h2⟩:=hsrc v x hx
    rw[hpa v x hx,h2]at hp
    exact((hS.parts _ a h1).2 p hp).1
theorem qq0 (t:List UInt8) (P:List (List UInt8×List UInt8)) (h:(Pl.qbe t P).2.code=0) (e:Pl.Ev) (he:e.S=(Pl.qbe t P).1.2) (hv:e.vis=(Pl.qbe t P).1.1):e.Ok∧0<e.vis.length∧e.vis.length≤257∧∀ v p,p∈e.parts v→p.text.length≤2000:=by
 unfold Pl.qbe at h he hv
 split at h
 ·cases h
 ·rename_i q1
  rw[if_neg q1]at he hv
  split at h
  ·rename_i q2; exact absurd h q2
  ·rename_i q2
   rw[if_neg q2]at he hv
   split at h
   ·rename_i q3; exact absurd h q3
   ·rename_i q3
    rw[if_neg q3]at he hv
    have hc:(Pl.qa8 (([],t)::P)).1.code=0:=by simpa using q2
    have ha:Pl.qgm (P.map (·.1))=true:=by
     cases hx:Pl.qgm (P.map (·.1)) with
     | true=>rfl
     | false=>exact absurd (.inr hx) q1
    exact q80 (q0d t P (by have:=fun q=>q1 (.inl q); omega) ha hc) (by simpa using q3) e he hv
end Go.Proofs.YtfkhljmiehdgmaaGreatDoor
namespace Go.Proofs.YtfkhljmiehdgmaaGreatDoor
open Go Go.RowKit Go.Lib Go.Shelf
set_option maxRecDepth 100000 in
set_option maxHeartbeats 1600000 in
theorem qy2 (gT:Nat) (ao:Option Addr) (n cap:Nat) (w:World) (hn:0<n) (h:w.cell? ⟨gT,0,none⟩=some (.slice ao n cap)):Calls Tryz.prog 35 #[.pointer (some ⟨gT,0,none⟩)] w fun ed w'=>ed=.returned (.bool true)∧w=w':=by
 have hn1:(0:Int)<(n:Int):=by omega
 have hn2:decide ((0:Int)<(n:Int))=true:=by simp; omega
 go_enter Tryz.func35,Tryz.ntmps35
 go_wp2
 go_ret
 exact⟨qax (by simp),rfl⟩
def RenC (w0:World) (r:Pl.Wt×Int):Ending→World→Prop:=fun ed w'=>∃ hvv,ed=.returned (.tuple #[bs r.1.out,hvv,.int .i64 r.2])∧(r.2≠0→hvv=.slice none 0 0)∧(r.2=0→w'.ownsRow w0.heap.size 55 3 hvv r.1.holes.length (qge r.1.holes))∧Below w0.heap.size w0 w'
set_option maxRecDepth 100000 in
set_option maxHeartbeats 1600000 in
theorem qpe {w:World} {vv dv:Value} {e:Pl.Ev} {M gT:Nat} (hE:Evm w vv dv e M) (hv0:0<e.vis.length) (hT:w.cell? ⟨gT,0,none⟩=some vv) (r:Pl.Wt×Int) (hr:e.page=r) :
  Calls Tryz.prog 19 #[.pointer (some ⟨gT,0,none⟩),dv,.int .i64 e.depth,.int .i64 e.room] w (RenC w r):=by
 obtain⟨bv,vcap,rfl,_,_⟩:=id hE.vis
 obtain⟨da,dcap,rfl,_,_⟩:=id hE.ds
 have HP:Hid (Calls Tryz.prog 36 #[.agg #[.slice (some ⟨bv,0,none⟩) e.vis.length vcap],.slice da e.D.length dcap,.int .i64 e.depth,.int .i64 e.room] w fun ed w'=>∃ ao n cap,ed=.returned (.tuple #[.string ⟨r.1.out.toArray⟩,.slice ao n cap,.int .i64 r.2])∧Hid (RenC w r ed w')):=by
  refine(q3i hE hv0 r hr).mono ?_
  rintro ed w' ⟨hvv,rfl,h1,h2,h3⟩
  have hf:∃ ao n cap,hvv=.slice ao n cap:=by
   by_cases hz:r.2=0
   ·rcases(h2 hz).2 with ⟨q,_⟩ | ⟨b,cap,cur,q,_⟩
    ·exact⟨_,_,_,q⟩
    ·exact⟨_,_,_,q⟩
   ·exact⟨_,_,_,h1 hz⟩
  obtain⟨ao,n,cap,rfl⟩:=hf
  exact⟨ao,n,cap,rfl,_,rfl,h1,h2,h3⟩
 have HM:=(show Hid _ from qy2 gT (some ⟨bv,0,none⟩) e.vis.length vcap w hv0 hT)
 have hd:=hE.depth
 have hd0:¬ e.depth<0:=by omega
 have hd1:¬ 50<e.depth:=by omega
 clear hE hr
 go_enter Tryz.func19,Tryz.ntmps19
 go_wp2_with (first
  | (go_at_call 36; refine Calls.mono HP.out ?_; rintro ed w' ⟨ao,n,cap,rfl,HO⟩)
  | (go_at_call 35; refine Calls.mono HM.out ?_; rintro ed w' ⟨rfl,rfl⟩))
 go_ret3
 exact HO.out
end Go.Proofs.YtfkhljmiehdgmaaGreatDoor
namespace Go.Proofs.YtfkhljmiehdgmaaGreatDoor
open Go.RowKit
def qh8 (c:Int):Nat:=((if c<0 then -(c+1) else c) % 9).toNat
theorem qni (c:Int):qh8 c<9:=by unfold qh8; omega
set_option maxRecDepth 100000 in
theorem q3d (c:Int) (h1:-9223372036854775808≤c) (h2:c≤9223372036854775807) (w:World) :
  Calls Tryz.prog 20 #[.int .i64 c,.int .i64 9] w fun e w'=>e=.returned (.int .i64 (qh8 c:Nat))∧w=w':=by
 by_cases hc:c<0
 ·have hw1:IntKind.i64.wrap (c+1)=c+1:=by rw[IntKind.wrap_i64]<;>omega
  have hw2:IntKind.i64.wrap (-(c+1))=-(c+1):=by rw[IntKind.wrap_i64]<;>omega
  have hm:Int.tmod (-(c+1)) 9=(qh8 c:Nat):=by unfold qh8; rw[if_pos hc,Int.tmod_eq_emod_of_nonneg (by omega)]; omega
  have hw3:IntKind.i64.wrap (Int.tmod (-(c+1)) 9)=(qh8 c:Nat):=by rw[hm,IntKind.wrap_i64]<;>(have:=qni c; omega)
  go_enter Tryz.func20,Tryz.ntmps20
  go_wp2_with fail
  go_ret
  exact⟨rfl,rfl⟩
 ·have hm:Int.tmod c 9=(qh8 c:Nat):=by unfold qh8; rw[if_neg hc,Int.tmod_eq_emod_of_nonneg (by omega)]; omega
  have hw3:IntKind.i64.wrap (Int.tmod c 9)=(qh8 c:Nat):=by rw[hm,IntKind.wrap_i64]<;>(have:=qni c; omega)
  go_enter Tryz.func20,Tryz.ntmps20
  go_wp2_with fail
  go_ret
  exact⟨rfl,rfl⟩
theorem q35:(Tryz.prog.info? 5).map (fun i=>(i.zero,i.size,i.bytes))=some (some (.int .u8 0),1,1):=by kernel_rfl
def qjw (b:UInt8):Bool:=decide (97≤b.toNat) && decide (b.toNat≤122)
def qjf (l:List UInt8):List UInt8:=(l.filter qjw).take 10
theorem qk2 (l:List UInt8):(qjf l).length≤10:=by unfold qjf; rw[List.length_take]; omega
theorem q7g:∀ b:UInt8,qjw b=true→b∈Pl.abc:=by
 intro b h
 unfold qjw at h
 simp only[Bool.and_eq_true,decide_eq_true_eq]at h
 have:∀ n:Fin 26,UInt8.ofNat (97+n.val)∈Pl.abc:=by decide
 have e:b=UInt8.ofNat (97+(b.toNat - 97)):=by
  rw[show 97+(b.toNat - 97)=b.toNat by omega]; simp
 rw[e]
 exact this ⟨b.toNat - 97,by omega⟩
theorem qje (l:List UInt8):Pl.qdw (qjf l):=fun b hb=>q7g b ((List.mem_filter.1 (List.mem_of_mem_take hb)).2)
theorem qyc (l:List UInt8) (b:UInt8) (acc all:List UInt8) (h:acc++((b::l).filter qjw).take (10 - acc.length)=all) (ha:acc.length<10) :
  (qjw b=true→(acc++[b])++(l.filter qjw).take (10 - (acc.length+1))=all)∧(qjw b=false→acc++(l.filter qjw).take (10 - acc.length)=all):=by
 refine⟨fun hb=>?_,fun hb=>?_⟩
 ·rw[← h,List.filter_cons_of_pos hb,show 10 - acc.length=(10 - (acc.length+1))+1 by omega,List.take_succ_cons]
  simp
 ·rw[← h,List.filter_cons_of_neg (by rw[hb]; simp)]
set_option maxRecDepth 100000 in
set_option maxHeartbeats 3200000 in
theorem q0t (s:ByteArray) (w:World) (hs:s.size≤100000000) :
  Calls Tryz.prog 39 #[.string s] w fun e w'=>e=.returned (.string ⟨(qjf s.data.toList).toArray⟩)∧Below w.heap.size w w':=by
 obtain⟨i0,hi,hz0,hz1,hz2⟩:=info_parts q35
 go_enter Tryz.func39,Tryz.ntmps39
 go_wp2
 go_loopw [3,4] (fun v i wr=>∃(k:Nat) (acc:List UInt8),k≤s.size∧i=.int .i64 k∧wr.ownsRow w.heap.size 5 1 v acc.length (Lib.byteCells acc)∧Below w.heap.size w wr∧acc++((s.data.toList.drop k).filter qjw).take (10 - acc.length)=qjf s.data.toList∧acc.length≤k∧acc.length≤10) (fun _ i _=>s.size - (intOf i).toNat)
 case atStart=>exact⟨0,[],Nat.zero_le _,rfl,World.ownsRow_nil _ _ _ _,Below.refl _ _,rfl,by simp,by simp⟩
 case round=>
  obtain⟨k,acc,hk,rfl,hown,hbw,hacc,hal,ha10⟩:=hrel
  have hz:=hbw.size
  obtain⟨ao,cap,rfl⟩:=qcd hown
  by_cases hlt:k<s.size
  ·by_cases h10:acc.length<10
   ·rw[Pl.qh0 s k hlt]at hacc
    have HM:=(show Hid _ from qyc _ s[k] acc _ hacc h10)
    clear hacc
    have c0:((acc.length:Nat):Int)<10:=by omega
    by_cases h97:97≤s[k].toNat
    ·have c1:(97:Int)≤(s[k].toNat:Int):=by omega
     by_cases h122:s[k].toNat≤122
     ·have c2:(s[k].toNat:Int)≤122:=by omega
      have HB:Hid (qjw s[k]=true):=by show _=_; unfold qjw; simp[h97,h122]
      clear h97 h122
      go_wp2_with (first | (at_builtin; refine wpList_append_own _ rfl _ _ 82 rfl w.heap.size 5 i0 (.int .u8 0) 1 1 Tryz.underlying82 hi hz0 hz1 hz2 rfl (by decide) _ _ _ rfl (hown.alloc _) ⟨wr.heap.size,0,none⟩ 1 1 [.int .u8 s[k].toNat] rfl rfl ?c1 ?c2 ?c3 ?c4 ?c5 ?_))
      case c1=>
       intro j u hj
       match j,hj with
       | 0,hj=>simp at hj; subst hj; simp[Addr.add]
      case c2=>intro u hu; simp at hu; subst hu; rfl
      case c3=>unfold maxLen; omega
      case c4=>omega
      case c5=>simp; omega
      ·intro v' w1 hown' hgrow _
       have hb1:Below w.heap.size w w1:=qwb (hbw.alloc hz _) (hown.alloc _) hgrow (by simp; omega)
       go_wp2
       go_roundw
       case rel=>
        refine⟨k+1,acc++[s[k]],by omega,by go_num,?_,hb1,by rw[List.length_append]; exact HM.out.1 HB.out,by simp; omega,by simp; omega⟩
        rw[qgk,List.length_append]
        exact hown'
       case measure=>simp[intOf]; omega
     ·have c2:¬(s[k].toNat:Int)≤122:=by omega
      have HB:Hid (qjw s[k]=false):=by show _=_; unfold qjw; simp; omega
      clear h97 h122
      go_wp2_with fail
      go_roundw
      case rel=>exact⟨k+1,acc,by omega,by go_num,hown,hbw,HM.out.2 HB.out,by omega,ha10⟩
      case measure=>simp[intOf]; omega
    ·have c1:¬(97:Int)≤(s[k].toNat:Int):=by omega
     have HB:Hid (qjw s[k]=false):=by show _=_; unfold qjw; simp; omega
     clear h97
     go_wp2_with fail
     go_roundw
     case rel=>exact⟨k+1,acc,by omega,by go_num,hown,hbw,HM.out.2 HB.out,by omega,ha10⟩
     case measure=>simp[intOf]; omega
   ·have c0:decide (((acc.length:Nat):Int)<10)=false:=decide_eq_false (by omega)
    have e:acc=qjf s.data.toList:=by
     rw[← hacc,show 10 - acc.length=0 by omega,List.take_zero,List.append_nil]
    have hcv:=qre (P:=Tryz.prog) wr 82 9 5 Tryz.underlying82 Tryz.underlying5 Tryz.underlying9 w.heap.size _ acc hown
    have HE:=(show Hid _ from e)
    clear e hacc h10
    go_wp2
    go_ret
    exact⟨by rw[← HE.out]; rfl,hbw⟩
  ·have e:acc=qjf s.data.toList:=by
    rw[← hacc,List.drop_eq_nil_of_le (by rw[Pl.qw3]; omega)]
    simp
   have hcv:=qre (P:=Tryz.prog) wr 82 9 5 Tryz.underlying82 Tryz.underlying5 Tryz.underlying9 w.heap.size _ acc hown
   have HE:=(show Hid _ from e)
   clear e hacc
   go_wp2
   go_ret
   exact⟨by rw[← HE.out]; rfl,hbw⟩
set_option maxHeartbeats 800000 in
theorem qrt (b:UInt8) (w:World) :
  Calls Tryz.prog 92 #[.int .u8 b.toNat] w fun e w'=>e=.returned (.int .u8 (Pl.qev b:Nat))∧w=w':=by
 by_cases h:b=62
 ·subst h
  go_enter Tryz.func92,Tryz.ntmps92
  go_wp2
  go_ret
  exact⟨rfl,rfl⟩
 ·have h':((b.toNat:Int)==62)=false:=(Pl.qj2 b 62 (by omega)).trans (by rw[beq_eq_false_iff_ne]; exact h)
  have HV:Hid (Pl.qev b=12):=by show _=_; unfold Pl.qev; rw[if_neg h]
  go_enter Tryz.func92,Tryz.ntmps92
  go_wp2
  go_ret
  exact⟨qa5 (by rw[HV.out]; rfl),rfl⟩
set_option maxRecDepth 100000 in
set_option maxHeartbeats 3200000 in
theorem qwf (s:Pl.St) (k:Pl.Mk) (b:UInt8) (w:World) (ht:PTabs w) (hm33:s.mode≤33) (hs:s.elem.length≤1000) (hm:19≤s.mode) (he:s.ends b=true) :
  Calls Tryz.prog 63 #[qad ⟨s,k⟩,.int .u8 b.toNat] w fun e w'=>e=.returned (qad (Pl.Sx.behind ⟨s,k⟩ b))∧Below w.heap.size w w':=by
 have HV:Hid (Pl.Sx.behind ⟨s,k⟩ b=⟨⟨Pl.qev b,[],[],0,0,false⟩,Pl.Mk.none⟩):=by
  show _=_
  exact Pl.q8i ⟨s,k⟩ b hm he
 rw[HV.out]
 clear HV
 have HM:=(show Hid _ from fun t t' cs hc=>Mid.start ⟨s,k⟩ ht cs t t' hc)
 have hE:=fun w=>qfx ⟨s,k⟩ b w hs
 simp only at hE
 rw[he]at hE
 have hm':(19:Int)≤(s.mode:Int):=by omega
 have hm34:(s.mode:Int)<34:=by omega
 unfold Pl.Mk.none
 unfold qad at hE ⊢
 unfold qab bs at hE HM ⊢
 simp only at hE HM ⊢
 have HE':=(show Hid _ from hE)
 clear hE
 go_enter Tryz.func63,Tryz.ntmps63
 go_wp2
 go_step3
 go_wp2_with fail
 refine(HE'.out _).mono ?_
 rintro e w1 ⟨rfl,hb1⟩
 have mid:=(HM.out _ _ _ rfl).kept hb1
 clear HM hb1
 obtain⟨v0,p0⟩:=mid.res.cell 0 (by omega)
 obtain⟨v1,p1⟩:=mid.res.cell 1 (by omega)
 obtain⟨v2,p2⟩:=mid.res.cell 2 (by omega)
 obtain⟨v3,p3⟩:=mid.res.cell 3 (by omega)
 obtain⟨v4,p4⟩:=mid.res.cell 4 (by omega)
 obtain⟨v5,p5⟩:=mid.res.cell 5 (by omega)
 obtain⟨v6,p6⟩:=mid.res.cell 6 (by omega)
 obtain⟨v7,p7⟩:=mid.res.cell 7 (by omega)
 obtain⟨v8,p8⟩:=mid.res.cell 8 (by omega)
 obtain⟨v9,p9⟩:=mid.res.cell 9 (by omega)
 have g0:=mid.res.thaw 0
 have g1:=mid.res.thaw 1
 have g2:=mid.res.thaw 2
 have g3:=mid.res.thaw 3
 have g4:=mid.res.thaw 4
 have g5:=mid.res.thaw 5
 have g6:=mid.res.thaw 6
 have g7:=mid.res.thaw 7
 have g8:=mid.res.thaw 8
 have g9:=mid.res.thaw 9
 go_wp2_with (go_at_call 92; refine(qrt b _).mono ?_; rintro e w' ⟨rfl,rfl⟩)
 try rw[Exit.noGoto_ret]
 refine qap Tryz.results63 (w.heap.size+1) _ Tryz.underlying162 rfl (by kernel_rfl) rfl mid.res rfl _ _ _ _ _ _ _ _ _ _ ?_
 exact⟨rfl,qaw mid.below (by simp) _ _ _ _ _ _ _ _ _ _⟩
set_option maxRecDepth 100000 in
set_option maxHeartbeats 3200000 in
theorem qwd (s:Pl.St) (k:Pl.Mk) (b:UInt8) (w:World) (ht:PTabs w) (hm33:s.mode≤33) (hs:s.elem.length≤1000) (hm:19≤s.mode) (he:s.ends b=false) (hesc:Pl.qat.getD s.mode false=true) (hx0:s.esc=true) :
  Calls Tryz.prog 63 #[qad ⟨s,k⟩,.int .u8 b.toNat] w fun e w'=>e=.returned (qad (Pl.Sx.behind ⟨s,k⟩ b))∧Below w.heap.size w w':=by
 have HV:Hid (Pl.Sx.behind ⟨s,k⟩ b=⟨⟨s.mode,s.name,s.elem,s.kind,(s.readEnd b),false⟩,Pl.qby s.mode s.esc b⟩):=by
  show _=_
  have hrd:s.nowRead b=(s.readEnd b):=by unfold Pl.St.nowRead; rw[if_pos hm]
  rw[Pl.q5f ⟨s,k⟩ b (fun q=>by have:=q.2; simp only at this; rw[he]at this; cases this) (by show (_ && (s.esc || _))=true; rw[hesc,hx0]; rfl)]
  simp only
  rw[hrd,hx0]; rfl
 rw[HV.out]
 clear HV
 have hC:=fun(w:World) (h:PTabs w)=>qed h.es s.mode (by show _<34; omega)
 rw[hesc]at hC
 clear hesc
 have hEs:=fun w h=>qn4 ⟨⟨s.mode,s.name,s.elem,s.kind,(s.readEnd b),s.esc⟩,k⟩ b w h
 simp only at hEs
 generalize Pl.qby s.mode s.esc b=K at hEs ⊢
 have HM:=(show Hid _ from fun t t' cs hc=>Mid.start ⟨s,k⟩ ht cs t t' hc)
 have hE:=fun w=>qfx ⟨s,k⟩ b w hs
 simp only at hE
 rw[he]at hE
 have hRE:=fun w=>qdo ⟨s,k⟩ b w hs
 simp only at hRE
 generalize s.readEnd b=rd at *
 have hm':(19:Int)≤(s.mode:Int):=by omega
 have hm34:(s.mode:Int)<34:=by omega
 unfold qad at hE hRE hEs ⊢
 unfold qd4 qcw at hEs
 unfold qab bs at hE hRE hEs HM ⊢
 simp only at hE hRE hEs HM ⊢
 rw[hx0]at hE hRE hEs HM ⊢
 have HX0:=(show Hid _ from hx0)
 clear hx0
 have HE':=(show Hid _ from hE)
 have HRE':=(show Hid _ from hRE)
 have HES':=(show Hid _ from hEs)
 clear hE hRE hEs
 have HC:=(show Hid _ from hC)
 clear hC
 go_enter Tryz.func63,Tryz.ntmps63
 go_wp2
 go_step3
 go_wp2_with fail
 refine(HE'.out _).mono ?_
 rintro e w1 ⟨rfl,hb1⟩
 have mid:=(HM.out _ _ _ rfl).kept hb1
 clear HM hb1
 have q0:=mid.at'.mode
 have q1:=mid.at'.name
 have q2:=mid.at'.elem
 have q3:=mid.at'.kind
 have q4:=mid.at'.read
 have q5:=mid.at'.ref
 have q6:=mid.at'.esc
 have q7:=mid.at'.hex
 have q8:=mid.at'.pct
 have q9:=mid.at'.far
 have f0:=mid.slot.thaw 0
 have f1:=mid.slot.thaw 1
 have f2:=mid.slot.thaw 2
 have f3:=mid.slot.thaw 3
 have f4:=mid.slot.thaw 4
 have f5:=mid.slot.thaw 5
 have f6:=mid.slot.thaw 6
 have f7:=mid.slot.thaw 7
 have f8:=mid.slot.thaw 8
 have f9:=mid.slot.thaw 9
 dsimp only at q0 q1 q2 q3 q4 q5 q6 q7 q8 q9
 rw[HX0.out]at q6
 go_wp2_with fail
 refine(HRE'.out _).mono ?_
 rintro e w2 ⟨rfl,hb2⟩
 clear q0 q1 q2 q3 q4 q5 q6 q7 q8 q9 f0 f1 f2 f3 f4 f5 f6 f7 f8 f9
 have mid2:=mid.kept hb2
 clear mid hb2
 have mid:=mid2
 clear mid2
 have q0:=mid.at'.mode
 have q1:=mid.at'.name
 have q2:=mid.at'.elem
 have q3:=mid.at'.kind
 have q4:=mid.at'.read
 have q5:=mid.at'.ref
 have q6:=mid.at'.esc
 have q7:=mid.at'.hex
 have q8:=mid.at'.pct
 have q9:=mid.at'.far
 have f0:=mid.slot.thaw 0
 have f1:=mid.slot.thaw 1
 have f2:=mid.slot.thaw 2
 have f3:=mid.slot.thaw 3
 have f4:=mid.slot.thaw 4
 have f5:=mid.slot.thaw 5
 have f6:=mid.slot.thaw 6
 have f7:=mid.slot.thaw 7
 have f8:=mid.slot.thaw 8
 have f9:=mid.slot.thaw 9
 dsimp only at q0 q1 q2 q3 q4 q5 q6 q7 q8 q9
 rw[HX0.out]at q6
 have mid3:=mid.setRead rd
 have c0:=HC.out _ mid3.tabs
 go_wp2_with fail
 refine(HES'.out _ mid3.tabs).mono ?_
 rintro e w4 ⟨rfl,hb4⟩
 clear q0 q1 q2 q3 q4 q5 q6 q7 q8 q9 f0 f1 f2 f3 f4 f5 f6 f7 f8 f9 c0
 have mid5:=mid3.kept hb4
 clear mid hb4 mid3
 have mid:=mid5
 clear mid5
 have q0:=mid.at'.mode
 have q1:=mid.at'.name
 have q2:=mid.at'.elem
 have q3:=mid.at'.kind
 have q4:=mid.at'.read
 have q5:=mid.at'.ref
 have q6:=mid.at'.esc
 have q7:=mid.at'.hex
 have q8:=mid.at'.pct
 have q9:=mid.at'.far
 have f0:=mid.slot.thaw 0
 have f1:=mid.slot.thaw 1
 have f2:=mid.slot.thaw 2
 have f3:=mid.slot.thaw 3
 have f4:=mid.slot.thaw 4
 have f5:=mid.slot.thaw 5
 have f6:=mid.slot.thaw 6
 have f7:=mid.slot.thaw 7
 have f8:=mid.slot.thaw 8
 have f9:=mid.slot.thaw 9
 dsimp only at q0 q1 q2 q3 q4 q5 q6 q7 q8 q9
 rw[HX0.out]at q6
 obtain⟨v0,p0⟩:=mid.res.cell 0 (by omega)
 obtain⟨v1,p1⟩:=mid.res.cell 1 (by omega)
 obtain⟨v2,p2⟩:=mid.res.cell 2 (by omega)
 obtain⟨v3,p3⟩:=mid.res.cell 3 (by omega)
 obtain⟨v4,p4⟩:=mid.res.cell 4 (by omega)
 obtain⟨v5,p5⟩:=mid.res.cell 5 (by omega)
 obtain⟨v6,p6⟩:=mid.res.cell 6 (by omega)
 obtain⟨v7,p7⟩:=mid.res.cell 7 (by omega)
 obtain⟨v8,p8⟩:=mid.res.cell 8 (by omega)
 obtain⟨v9,p9⟩:=mid.res.cell 9 (by omega)
 have g0:=mid.res.thaw 0
 have g1:=mid.res.thaw 1
 have g2:=mid.res.thaw 2
 have g3:=mid.res.thaw 3
 have g4:=mid.res.thaw 4
 have g5:=mid.res.thaw 5
 have g6:=mid.res.thaw 6
 have g7:=mid.res.thaw 7
 have g8:=mid.res.thaw 8
 have g9:=mid.res.thaw 9
 go_wp2_with fail
 have mid:=((((mid.setRef K.ref).setEsc false).setHex K.hex).setPct K.pct).setFar K.far
 try rw[Exit.noGoto_ret]
 refine qap Tryz.results63 (w.heap.size+1) _ Tryz.underlying162 rfl (by kernel_rfl) rfl mid.res rfl _ _ _ _ _ _ _ _ _ _ ?_
 exact⟨rfl,qaw mid.below (by simp) _ _ _ _ _ _ _ _ _ _⟩
set_option maxRecDepth 100000 in
set_option maxHeartbeats 3200000 in
theorem qwe (s:Pl.St) (k:Pl.Mk) (b:UInt8) (w:World) (ht:PTabs w) (hm33:s.mode≤33) (hs:s.elem.length≤1000) (hm:19≤s.mode) (he:s.ends b=false) (hesc:Pl.qat.getD s.mode false=true) (hx0:s.esc=false) (hb:(b==92)=true) :
  Calls Tryz.prog 63 #[qad ⟨s,k⟩,.int .u8 b.toNat] w fun e w'=>e=.returned (qad (Pl.Sx.behind ⟨s,k⟩ b))∧Below w.heap.size w w':=by
 have HV:Hid (Pl.Sx.behind ⟨s,k⟩ b=⟨⟨s.mode,s.name,s.elem,s.kind,(s.readEnd b),true⟩,Pl.qby s.mode s.esc b⟩):=by
  show _=_
  have hrd:s.nowRead b=(s.readEnd b):=by unfold Pl.St.nowRead; rw[if_pos hm]
  rw[Pl.q5f ⟨s,k⟩ b (fun q=>by have:=q.2; simp only at this; rw[he]at this; cases this) (by show (_ && (s.esc || _))=true; rw[hesc,hx0,hb]; rfl)]
  simp only
  rw[hrd,hx0]; rfl
 rw[HV.out]
 clear HV
 have hb':((b.toNat:Int)==92)=true:=(Pl.qj2 b 92 (by omega)).trans hb
 clear hb
 have hC:=fun(w:World) (h:PTabs w)=>qed h.es s.mode (by show _<34; omega)
 rw[hesc]at hC
 clear hesc
 have hEs:=fun w h=>qn4 ⟨⟨s.mode,s.name,s.elem,s.kind,(s.readEnd b),s.esc⟩,k⟩ b w h
 simp only at hEs
 generalize Pl.qby s.mode s.esc b=K at hEs ⊢
 have HM:=(show Hid _ from fun t t' cs hc=>Mid.start ⟨s,k⟩ ht cs t t' hc)
 have hE:=fun w=>qfx ⟨s,k⟩ b w hs
 simp only at hE
 rw[he]at hE
 have hRE:=fun w=>qdo ⟨s,k⟩ b w hs
 simp only at hRE
 generalize s.readEnd b=rd at *
 have hm':(19:Int)≤(s.mode:Int):=by omega
 have hm34:(s.mode:Int)<34:=by omega
 unfold qad at hE hRE hEs ⊢
 unfold qd4 qcw at hEs
 unfold qab bs at hE hRE hEs HM ⊢
 simp only at hE hRE hEs HM ⊢
 rw[hx0]at hE hRE hEs HM ⊢
 have HX0:=(show Hid _ from hx0)
 clear hx0
 have HE':=(show Hid _ from hE)
 have HRE':=(show Hid _ from hRE)
 have HES':=(show Hid _ from hEs)
 clear hE hRE hEs
 have HC:=(show Hid _ from hC)
 clear hC
 go_enter Tryz.func63,Tryz.ntmps63
 go_wp2
 go_step3
 go_wp2_with fail
 refine(HE'.out _).mono ?_
 rintro e w1 ⟨rfl,hb1⟩
 have mid:=(HM.out _ _ _ rfl).kept hb1
 clear HM hb1
 have q0:=mid.at'.mode
 have q1:=mid.at'.name
 have q2:=mid.at'.elem
 have q3:=mid.at'.kind
 have q4:=mid.at'.read
 have q5:=mid.at'.ref
 have q6:=mid.at'.esc
 have q7:=mid.at'.hex
 have q8:=mid.at'.pct
 have q9:=mid.at'.far
 have f0:=mid.slot.thaw 0
 have f1:=mid.slot.thaw 1
 have f2:=mid.slot.thaw 2
 have f3:=mid.slot.thaw 3
 have f4:=mid.slot.thaw 4
 have f5:=mid.slot.thaw 5
 have f6:=mid.slot.thaw 6
 have f7:=mid.slot.thaw 7
 have f8:=mid.slot.thaw 8
 have f9:=mid.slot.thaw 9
 dsimp only at q0 q1 q2 q3 q4 q5 q6 q7 q8 q9
 rw[HX0.out]at q6
 go_wp2_with fail
 refine(HRE'.out _).mono ?_
 rintro e w2 ⟨rfl,hb2⟩
 clear q0 q1 q2 q3 q4 q5 q6 q7 q8 q9 f0 f1 f2 f3 f4 f5 f6 f7 f8 f9
 have mid2:=mid.kept hb2
 clear mid hb2
 have mid:=mid2
 clear mid2
 have q0:=mid.at'.mode
 have q1:=mid.at'.name
 have q2:=mid.at'.elem
 have q3:=mid.at'.kind
 have q4:=mid.at'.read
 have q5:=mid.at'.ref
 have q6:=mid.at'.esc
 have q7:=mid.at'.hex
 have q8:=mid.at'.pct
 have q9:=mid.at'.far
 have f0:=mid.slot.thaw 0
 have f1:=mid.slot.thaw 1
 have f2:=mid.slot.thaw 2
 have f3:=mid.slot.thaw 3
 have f4:=mid.slot.thaw 4
 have f5:=mid.slot.thaw 5
 have f6:=mid.slot.thaw 6
 have f7:=mid.slot.thaw 7
 have f8:=mid.slot.thaw 8
 have f9:=mid.slot.thaw 9
 dsimp only at q0 q1 q2 q3 q4 q5 q6 q7 q8 q9
 rw[HX0.out]at q6
 have mid3:=mid.setRead rd
 have c0:=HC.out _ mid3.tabs
 go_wp2_with fail
 refine(HES'.out _ mid3.tabs).mono ?_
 rintro e w4 ⟨rfl,hb4⟩
 clear q0 q1 q2 q3 q4 q5 q6 q7 q8 q9 f0 f1 f2 f3 f4 f5 f6 f7 f8 f9 c0
 have mid5:=mid3.kept hb4
 clear mid hb4 mid3
 have mid:=mid5
 clear mid5
 have q0:=mid.at'.mode
 have q1:=mid.at'.name
 have q2:=mid.at'.elem
 have q3:=mid.at'.kind
 have q4:=mid.at'.read
 have q5:=mid.at'.ref
 have q6:=mid.at'.esc
 have q7:=mid.at'.hex
 have q8:=mid.at'.pct
 have q9:=mid.at'.far
 have f0:=mid.slot.thaw 0
 have f1:=mid.slot.thaw 1
 have f2:=mid.slot.thaw 2
 have f3:=mid.slot.thaw 3
 have f4:=mid.slot.thaw 4
 have f5:=mid.slot.thaw 5
 have f6:=mid.slot.thaw 6
 have f7:=mid.slot.thaw 7
 have f8:=mid.slot.thaw 8
 have f9:=mid.slot.thaw 9
 dsimp only at q0 q1 q2 q3 q4 q5 q6 q7 q8 q9
 rw[HX0.out]at q6
 obtain⟨v0,p0⟩:=mid.res.cell 0 (by omega)
 obtain⟨v1,p1⟩:=mid.res.cell 1 (by omega)
 obtain⟨v2,p2⟩:=mid.res.cell 2 (by omega)
 obtain⟨v3,p3⟩:=mid.res.cell 3 (by omega)
 obtain⟨v4,p4⟩:=mid.res.cell 4 (by omega)
 obtain⟨v5,p5⟩:=mid.res.cell 5 (by omega)
 obtain⟨v6,p6⟩:=mid.res.cell 6 (by omega)
 obtain⟨v7,p7⟩:=mid.res.cell 7 (by omega)
 obtain⟨v8,p8⟩:=mid.res.cell 8 (by omega)
 obtain⟨v9,p9⟩:=mid.res.cell 9 (by omega)
 have g0:=mid.res.thaw 0
 have g1:=mid.res.thaw 1
 have g2:=mid.res.thaw 2
 have g3:=mid.res.thaw 3
 have g4:=mid.res.thaw 4
 have g5:=mid.res.thaw 5
 have g6:=mid.res.thaw 6
 have g7:=mid.res.thaw 7
 have g8:=mid.res.thaw 8
 have g9:=mid.res.thaw 9
 go_wp2_with fail
 have mid:=((((mid.setRef K.ref).setEsc true).setHex K.hex).setPct K.pct).setFar K.far
 try rw[Exit.noGoto_ret]
 refine qap Tryz.results63 (w.heap.size+1) _ Tryz.underlying162 rfl (by kernel_rfl) rfl mid.res rfl _ _ _ _ _ _ _ _ _ _ ?_
 exact⟨rfl,qaw mid.below (by simp) _ _ _ _ _ _ _ _ _ _⟩
end Go.Proofs.YtfkhljmiehdgmaaGreatDoor
