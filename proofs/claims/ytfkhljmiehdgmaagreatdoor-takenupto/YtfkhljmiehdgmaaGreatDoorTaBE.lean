/-
  Steps of the proof (texts laid together, blanks left out): PoF, PnSb, PgMkX.
-/
import Derived.Test.YtfkhljmiehdgmaaGreatDoorTaBD
import Derived.Test.YtfkhljmiehdgmaaGreatDoorTaAT
import Derived.Test.YtfkhljmiehdgmaaGreatDoorTaAW
import Derived.Test.YtfkhljmiehdgmaaGreatDoorTaAU
namespace Go.Proofs.YtfkhljmiehdgmaaGreatDoor
open Go.RowKit Go.Maps
set_option maxRecDepth 100000 in
set_option maxHeartbeats 12800000 in
theorem qp1 (T:ByteArray) (v:Value) (L:List (ByteArray×ByteArray)) (w:World) (hA:qop w v L) (hL:L.length≤6) (hm:qay w) (hR:qc8 T.data.toList) (hRL:∀ p∈L,qc8 p.2.data.toList) (hN:∀ p∈L,p.1.size≤100000) (r:Pl.Ft×List Pl.Src) (hr:Pl.qa8 (([],T.data.toList)::qa9 L)=r) :
  Calls Tryz.prog 44 #[.string T,v] w fun ed w'=>((r.1.code≠0→ed=.returned (.tuple #[.slice none 0 0,ql2 r.1]))∧(r.1.code=0→∃ g pv,ed=.returned (.tuple #[.slice (some ⟨g,0,none⟩) r.2.length r.2.length,ql2 Pl.Ft.none])∧SrcAt w' w.heap.size ⟨0,g,0,0,0,pv⟩ r.2))∧Below w.heap.size w w':=by
 obtain⟨n,hn⟩:∃ n,n=L.length+1:=⟨_,rfl⟩
 have hb1:Below w.heap.size w ((w.alloc (.cells #[.int .i64 0,.int .i64 0,.string ⟨#[]⟩,.int .i64 0] 31)).alloc (.cells #[.string ⟨#[]⟩,.string T] 38)):=((Below.refl _ _).alloc (Nat.le_refl _) _).alloc (by simp) _
 have hbk:=qas (w.alloc (.cells #[.int .i64 0,.int .i64 0,.string ⟨#[]⟩,.int .i64 0] 31)) (.cells #[.string ⟨#[]⟩,.string T] 38) (w.heap.size+1) (by simp)
 obtain⟨b,cap,w2,hrun,hps,hb2⟩:=all_append T v L w _ (w.heap.size+1) hA hL hb1 (qaa hbk 0 _ rfl) (qaa hbk 1 _ rfl)
 rw[← hn]at hrun
 have hLL:((⟨#[]⟩,T)::L:List (ByteArray×ByteArray)).length=n:=by rw[hn]; rfl
 have hRA:∀ p∈((⟨#[]⟩,T)::L:List (ByteArray×ByteArray)),qc8 p.2.data.toList∧p.1.size≤100000:=fun p hp=>by
  rcases List.mem_cons.1 hp with rfl | hp
  ·exact⟨hR,by show (0:Nat)≤100000; omega⟩
  ·exact⟨hRL p hp,hN p hp⟩
 have hZ:qa9 ((⟨#[]⟩,T)::L)=([],T.data.toList)::qa9 L:=rfl
 rw[← hZ]at hr
 have hmk:=qvc n (by omega)
 have hres:w2.heap[w.heap.size]?=some (.cells #[.int .i64 0,.int .i64 0,.string ⟨#[]⟩,.int .i64 0] 31 (0,0)):=(hb2.block _ (by simp<;>omega)).trans ((heap_alloc_old _ _ (by simp)).trans (heap_alloc_new _ _))
 have hC0:CAi w (w2.alloc (.cells (madeCells #[.string ⟨#[]⟩,.slice none 0 0] (n*2)) 173)) b w2.heap.size w.heap.size ((⟨#[]⟩,T)::L) (fun i=>if i % 2=0 then .string ⟨#[]⟩ else .slice none 0 0) 0:=by
  have hb3:=(hb1.trans (hb2.mono hb1.size)).alloc (hb1.trans (hb2.mono hb1.size)).size (.cells (madeCells #[.string ⟨#[]⟩,.slice none 0 0] (n*2)) 173)
  have hlt:b<w2.heap.size:=World.block_lt_of_cell? _ _ (hps.name 0 _ rfl)
  have hb4:Below w2.heap.size w2 (w2.alloc (.cells (madeCells #[.string ⟨#[]⟩,.slice none 0 0] (n*2)) 173)):=(Below.refl _ _).alloc (Nat.le_refl _) _
  refine⟨⟨fun k x hx=>(hb4.cell (p:=⟨b,k*2,none⟩) hlt).trans (hps.name k x hx),fun k x hx=>(hb4.cell (p:=⟨b,k*2+1,none⟩) hlt).trans (hps.text k x hx)⟩,?_,fun i x hi=>absurd hi (Nat.not_lt_zero _),fun i x hi=>absurd hi (Nat.not_lt_zero _),(heap_alloc_old _ _ (Array.getElem?_eq_some_iff.1 hres).1).trans hres,hb3,⟨Nat.le_refl _,(hb1.trans (hb2.mono hb1.size)).size⟩,Nat.ne_of_lt hlt⟩
  refine⟨_,heap_alloc_new _ _,by rw[size_madeCells,hLL],fun i hi=>?_⟩
  rw[hLL]at hi
  unfold madeCells
  rw[Array.getElem?_map,Array.getElem?_range,if_pos hi]
  simp only[Option.map_some,Option.some.injEq]
  rcases Nat.mod_two_eq_zero_or_one i with e | e
  ·rw[if_pos e]; show (#[Value.string ⟨#[]⟩,Value.slice none 0 0][i % 2]!)=_; rw[e]; rfl
  ·rw[if_neg (by omega)]; show (#[Value.string ⟨#[]⟩,Value.slice none 0 0][i % 2]!)=_; rw[e]; rfl
 generalize ((⟨#[]⟩,T)::L:List (ByteArray×ByteArray))=LL at hLL hRA hr hC0 hps
 have HR:=(show Hid (Pl.qa8 (qa9 LL)=r) from hr)
 have HRA:=(show Hid _ from hRA)
 have HC0:=(show Hid _ from hC0)
 have HM:=(show Hid (qay w) from hm)
 have hn7:(n:Int)≤7:=by omega
 have HLL:=(show Hid _ from hLL)
 clear hA hL hm hR hRL hN hr hb1 hbk hps hb2 hn hLL hRA hZ hres hC0
 go_enter Tryz.func44,Tryz.ntmps44
 go_wp2_with (at_builtin; refine qkw _ rfl _ _ 22 rfl _ _ _ w2 rfl rfl (hrun _) ?_)
 clear hrun hmk
 generalize w2.heap.size=g at HC0 ⊢
 generalize World.alloc w2 _=w3 at HC0 ⊢
 go_loopw [23] (fun i wr=>∃(k:Nat) (f:Nat→Value),k≤n∧i=.int .i64 k∧Hid (CAi w wr b g w.heap.size LL f k∧∀(i:Nat) y,i<k→(qa9 LL)[i]?=some y→(Pl.qav y.2).1.1=0)) (fun i _=>n - (intOf i).toNat)
 case atStart=>exact⟨0,_,Nat.zero_le _,rfl,HC0.out,fun i y hi=>absurd hi (Nat.not_lt_zero _)⟩
 case round=>
  obtain⟨k,f,hk,rfl,HC⟩:=hrel
  clear HC0
  by_cases hlt:k<n
  ·have hlt2:(k:Int)<(n:Int):=by omega
   have hll:=HLL.out
   obtain⟨x,hx⟩:∃ x,LL[k]?=some x:=⟨LL[k]'(by omega),List.getElem?_eq_getElem (by omega)⟩
   have p0:wr.cell? ⟨b,k*2,none⟩=some (.string x.1):=HC.out.1.ps.name k x hx
   have p1:wr.cell? ⟨b,k*2+1,none⟩=some (.string x.2):=HC.out.1.ps.text k x hx
   obtain⟨hxr,hxs⟩:=HRA.out x (List.mem_of_getElem? hx)
   have HCl:=(show Hid _ from fun w=>qtz x.1 w hxs)
   have HCut:=(show Hid _ from fun w hm=>qu0 x.2 w hm hxr)
   have HX:=(show Hid _ from hx)
   have hpx:=q3g hx
   have HPX:=(show Hid _ from hpx)
   clear hll hx hxr hxs hpx
   obtain⟨N,X⟩:=x
   simp only at p0 p1 HCl HCut HX HPX
   obtain⟨sl,hsl⟩:∃ sl,sl=Pl.qav X.data.toList:=⟨_,rfl⟩
   rw[← hsl]at HCut
   unfold qf7 at HCut
   have HSL:=(show Hid _ from hsl)
   clear hsl
   go_wp2_with fail
   refine Calls.mono (HCl.out _) ?_; rintro ed w4 ⟨rfl,hb4⟩
   have HC4:=(show Hid _ from(HC.out.1.next ((Below.refl _ _).alloc (Nat.le_refl _) (.cells #[.string N,.string X] 38))).next hb4)
   have t1:w4.cell? ⟨wr.heap.size,1,none⟩=some (.string X):=qaa ((hb4.block wr.heap.size (by simp)).trans (heap_alloc_new wr _)) 1 _ rfl
   clear hb4 p0 p1
   go_wp2_with fail
   have hml:qay w4:=HM.out.below HC4.out.below
   refine Calls.mono (HCut.out _ hml) ?_; rintro ed w5 ⟨⟨v5,rfl,hrow⟩,hb5⟩
   have HC5:=(show Hid _ from HC4.out.next hb5)
   have HB5:=(show Hid _ from HC4.out.below.size)
   clear hb5 t1 HC4 hml
   by_cases hz:sl.1.1=0
   ·have hz1:((sl.1.1:Int) != 0)=false:=by rw[hz]; rfl
    have hz2:(sl.1.1:Int)=0:=by omega
    obtain⟨ao5,cap5,rfl⟩:=qcd (hrow hz)
    have HRow:=(show Hid _ from(hrow hz).mono HB5.out)
    have g0:∀ o,∃ u,(w5.alloc o).cell? ⟨g,k*2,none⟩=some u:=fun o=>⟨_,(HC5.out.next ((Below.refl _ _).alloc (Nat.le_refl _) o)).blk.cell (by have:=HLL.out; omega)⟩
    have g1:∀ o,∃ u,(w5.alloc o).cell? ⟨g,k*2+1,none⟩=some u:=fun o=>⟨_,(HC5.out.next ((Below.refl _ _).alloc (Nat.le_refl _) o)).blk.cell (by have:=HLL.out; omega)⟩
    obtain⟨u0,g0⟩:∃ u0,∀ o,(w5.alloc o).cell? ⟨g,k*2,none⟩=some u0:=⟨_,fun o=>(HC5.out.next ((Below.refl _ _).alloc (Nat.le_refl _) o)).blk.cell (by have:=HLL.out; omega)⟩
    obtain⟨u1,g1⟩:∃ u1,∀ o,(w5.alloc o).cell? ⟨g,k*2+1,none⟩=some u1:=⟨_,fun o=>(HC5.out.next ((Below.refl _ _).alloc (Nat.le_refl _) o)).blk.cell (by have:=HLL.out; omega)⟩
    have z0:∀ o,(w5.alloc o).frozen? ⟨g,k*2,none⟩=false:=fun o=>(HC5.out.next ((Below.refl _ _).alloc (Nat.le_refl _) o)).blk.frozen _
    have z1:∀ o,(w5.alloc o).frozen? ⟨g,k*2+1,none⟩=false:=fun o=>(HC5.out.next ((Below.refl _ _).alloc (Nat.le_refl _) o)).blk.frozen _
    have HZ:=(show Hid _ from hz)
    clear hrow hz
    go_wp2_with fail
    go_roundw
    case rel=>
     have hx2:=HX.out
     have hrw:=qah HRow.out (w':=w5.alloc (.cells #[.int .i64 0,.int .i64 sl.1.2] 169)) (fun q hq=>heap_alloc_old _ _ (World.ownsRow.lt HRow.out q hq).2)
     obtain⟨f',hf⟩:=(HC5.out.next ((Below.refl _ _).alloc (Nat.le_refl _) (.cells #[.int .i64 0,.int .i64 sl.1.2] 169))).put hx2 (v:=.slice ao5 sl.2.length cap5) (by show World.ownsRow _ _ _ _ _ (Pl.qav X.data.toList).2.length (qbq (Pl.qav X.data.toList).2); rw[← HSL.out]; exact hrw)
     refine⟨k+1,f',by omega,by go_num,?_,fun i y hi hy=>?_⟩
     ·exact hf
     ·by_cases e:i=k
      ·subst e
       rw[HPX.out]at hy
       obtain rfl:=Option.some.inj hy
       show (Pl.qav X.data.toList).1.1=0
       rw[← HSL.out]; exact HZ.out
      ·exact HC.out.2 i y (by omega) hy
    case measure=>simp[intOf]; omega
   ·have hz1:((sl.1.1:Int) != 0)=true:=by rw[bne_iff_ne]; omega
    have hNN:(⟨N.data.toList.toArray⟩:ByteArray)=N:=by cases N; simp
    have HXX:Hid (ql2 r.1=.agg #[.int .i64 2,.int .i64 (sl.1.1:Nat),.string N,.int .i64 (sl.1.2:Nat)]∧r.1.code=2):=by
     have h1:=Pl.qp0 (qa9 LL) k (N.data.toList,X.data.toList) HC.out.2 HPX.out (by show (Pl.qav X.data.toList).1.1≠0; rw[← HSL.out]; exact hz)
     rw[HR.out]at h1
     simp only[← HSL.out]at h1
     show _∧_
     rw[h1]
     refine⟨?_,rfl⟩
     show Value.agg #[_,_,.string (⟨N.data.toList.toArray⟩:ByteArray),_]=_
     rw[hNN]
     rfl
    have x0:∀ o,(w5.alloc o).cell? ⟨w.heap.size,0,none⟩=some (.int .i64 0):=fun o=>qaa (HC5.out.next ((Below.refl _ _).alloc (Nat.le_refl _) o)).res 0 _ rfl
    have x1:∀ o,(w5.alloc o).cell? ⟨w.heap.size,1,none⟩=some (.int .i64 0):=fun o=>qaa (HC5.out.next ((Below.refl _ _).alloc (Nat.le_refl _) o)).res 1 _ rfl
    have x2:∀ o,(w5.alloc o).cell? ⟨w.heap.size,2,none⟩=some (.string ⟨#[]⟩):=fun o=>qaa (HC5.out.next ((Below.refl _ _).alloc (Nat.le_refl _) o)).res 2 _ rfl
    have x3:∀ o,(w5.alloc o).cell? ⟨w.heap.size,3,none⟩=some (.int .i64 0):=fun o=>qaa (HC5.out.next ((Below.refl _ _).alloc (Nat.le_refl _) o)).res 3 _ rfl
    have y0:∀ o,(w5.alloc o).frozen? ⟨w.heap.size,0,none⟩=false:=fun o=>by simp[World.frozen?,(HC5.out.next ((Below.refl _ _).alloc (Nat.le_refl _) o)).res]
    have y1:∀ o,(w5.alloc o).frozen? ⟨w.heap.size,1,none⟩=false:=fun o=>by simp[World.frozen?,(HC5.out.next ((Below.refl _ _).alloc (Nat.le_refl _) o)).res]
    have y2:∀ o,(w5.alloc o).frozen? ⟨w.heap.size,2,none⟩=false:=fun o=>by simp[World.frozen?,(HC5.out.next ((Below.refl _ _).alloc (Nat.le_refl _) o)).res]
    have y3:∀ o,(w5.alloc o).frozen? ⟨w.heap.size,3,none⟩=false:=fun o=>by simp[World.frozen?,(HC5.out.next ((Below.refl _ _).alloc (Nat.le_refl _) o)).res]
    have HC6:=(show Hid _ from HC5.out.next ((Below.refl _ _).alloc (Nat.le_refl _) (.cells #[.int .i64 (sl.1.1:Nat),.int .i64 (sl.1.2:Nat)] 169)))
    clear hrow hz hNN
    go_wp2_with fail
    go_region
    all_goals
     go_wp2_with fail
     have hf:=qgh HC6.out.res (.int .i64 2) (.int .i64 (sl.1.1:Nat)) (.string N) (.int .i64 (sl.1.2:Nat))
     have hb:=(((HC6.out.below.setCell (p:=⟨w.heap.size,0,none⟩) (Nat.le_refl _) (.int .i64 2)).setCell (p:=⟨w.heap.size,1,none⟩) (Nat.le_refl _) (.int .i64 (sl.1.1:Nat))).setCell (p:=⟨w.heap.size,2,none⟩) (Nat.le_refl _) (.string N)).setCell (p:=⟨w.heap.size,3,none⟩) (Nat.le_refl _) (.int .i64 (sl.1.2:Nat))
     refine qef Tryz.results44 rfl w.heap.size (.slice none 0 0) _ rfl rfl hf _ Tryz.underlying31 rfl (by kernel_rfl) ?_
     exact⟨⟨fun _=>by rw[HXX.out.1],fun q=>absurd q (by rw[HXX.out.2]; omega)⟩,hb.drew⟩
  ·have hlt2:¬(k:Int)<(n:Int):=by omega
   obtain rfl:k=n:=by omega
   have HXX:Hid (r=(Pl.Ft.none,(qa9 LL).map fun z=>⟨z.1,(Pl.qav z.2).2⟩)):=by
    show _=_
    rw[← HR.out]
    exact Pl.qob _ fun i z hz=>HC.out.2 i z (by have:=(List.getElem?_eq_some_iff.1 hz).1; unfold qa9 at this; rw[List.length_map,HLL.out]at this; exact this) hz
   have HS:Hid (SrcAt wr w.heap.size ⟨0,g,0,0,0,fun i=>f (i*2+1)⟩ r.2∧r.2.length=k):=by
    have h1:=HC.out.1
    rw[← HLL.out]at h1
    show _∧_
    rw[HXX.out]
    refine⟨h1.sources,?_⟩
    unfold qa9
    rw[List.length_map,List.length_map,HLL.out]
   have x0:wr.cell? ⟨w.heap.size,0,none⟩=some (.int .i64 0):=qaa HC.out.1.res 0 _ rfl
   have x1:wr.cell? ⟨w.heap.size,1,none⟩=some (.int .i64 0):=qaa HC.out.1.res 1 _ rfl
   have x2:wr.cell? ⟨w.heap.size,2,none⟩=some (.string ⟨#[]⟩):=qaa HC.out.1.res 2 _ rfl
   have x3:wr.cell? ⟨w.heap.size,3,none⟩=some (.int .i64 0):=qaa HC.out.1.res 3 _ rfl
   have y0:wr.frozen? ⟨w.heap.size,0,none⟩=false:=by simp[World.frozen?,HC.out.1.res]
   have y1:wr.frozen? ⟨w.heap.size,1,none⟩=false:=by simp[World.frozen?,HC.out.1.res]
   have y2:wr.frozen? ⟨w.heap.size,2,none⟩=false:=by simp[World.frozen?,HC.out.1.res]
   have y3:wr.frozen? ⟨w.heap.size,3,none⟩=false:=by simp[World.frozen?,HC.out.1.res]
   go_wp2_with fail
   have hf:=qgh HC.out.1.res (.int .i64 0) (.int .i64 0) (.string ⟨#[]⟩) (.int .i64 0)
   have hb:=(((HC.out.1.below.setCell (p:=⟨w.heap.size,0,none⟩) (Nat.le_refl _) (.int .i64 0)).setCell (p:=⟨w.heap.size,1,none⟩) (Nat.le_refl _) (.int .i64 0)).setCell (p:=⟨w.heap.size,2,none⟩) (Nat.le_refl _) (.string ⟨#[]⟩)).setCell (p:=⟨w.heap.size,3,none⟩) (Nat.le_refl _) (.int .i64 0)
   have hfar:∀ q,q≠w.heap.size→((((wr.setCell ⟨w.heap.size,0,none⟩ (.int .i64 0)).setCell ⟨w.heap.size,1,none⟩ (.int .i64 0)).setCell ⟨w.heap.size,2,none⟩ (.string ⟨#[]⟩)).setCell ⟨w.heap.size,3,none⟩ (.int .i64 0)).heap[q]?=wr.heap[q]?:=fun q hq=>(Below.heap_setCell _ _ _ _ hq).trans ((Below.heap_setCell _ _ _ _ hq).trans ((Below.heap_setCell _ _ _ _ hq).trans (Below.heap_setCell _ _ _ _ hq)))
   refine qef Tryz.results44 rfl w.heap.size (.slice (some ⟨g,0,none⟩) k k) _ rfl rfl hf _ Tryz.underlying31 rfl (by kernel_rfl) ?_
   refine⟨⟨fun q=>absurd (by rw[HXX.out]; rfl) q,fun _=>⟨g,(by rw[HS.out.2]; rfl),fun i=>f (i*2+1),SrcAt.kept HS.out.1 ?_ ?_⟩⟩,hb⟩
   ·obtain⟨cs,fz,hc⟩:=HS.out.1.blk
    exact hfar _ (qaf hc HC.out.1.res qc0.symm)
   ·intro i s q hs hv
    obtain⟨cur,hc⟩:=qae (HS.out.1.row i s hs) q hv
    exact hfar _ (qaf hc HC.out.1.res qeq.symm)
end Go.Proofs.YtfkhljmiehdgmaaGreatDoor
namespace Go.Proofs.YtfkhljmiehdgmaaGreatDoor.Pl
theorem qsj:∀(T:List UInt8) (x:Sx) (j:Nat) (h:j<T.length),qa2 x (T.take j)=Option.none→qbv (qau x (T.take j)).st.kind (qau x (T.take j)).st.mode (qau x (T.take j)).ma.far T[j]=true→qa2 x T=some j
 | [],x,j,h,_,_=>by simp at h
 | b::l,x,0,h,_,hm=>by
   have hm:qbv x.st.kind x.st.mode x.ma.far b=true:=hm
   unfold qa2
   rw[if_pos hm]
 | b::l,x,j+1,h,h0,hm=>by
   rw[List.take_succ_cons]at h0
   unfold qa2 at h0 ⊢
   split at h0
   ·cases h0
   ·rename_i hb
    rw[if_neg hb]
    rw[Option.map_eq_none_iff]at h0
    rw[qsj l (x.behind b) j (by simpa using h) h0 hm]
    rfl
theorem qsi:∀(T:List UInt8) (x:Sx) (j:Nat) (h:j<T.length),qa2 x (T.take j)=Option.none→qbv (qau x (T.take j)).st.kind (qau x (T.take j)).st.mode (qau x (T.take j)).ma.far T[j]=false→qa2 x (T.take (j+1))=Option.none
 | [],x,j,h,_,_=>by simp at h
 | b::l,x,0,h,_,hm=>by
   have hm:qbv x.st.kind x.st.mode x.ma.far b=false:=hm
   rw[List.take_succ_cons]
   unfold qa2
   rw[hm,List.take_zero]
   rfl
 | b::l,x,j+1,h,h0,hm=>by
   rw[List.take_succ_cons]at h0 ⊢
   unfold qa2 at h0 ⊢
   split at h0
   ·cases h0
   ·rename_i hb
    rw[if_neg hb]
    rw[Option.map_eq_none_iff]at h0 ⊢
    exact qsi l (x.behind b) j (by simpa using h) h0 hm
end Go.Proofs.YtfkhljmiehdgmaaGreatDoor.Pl
namespace Go.Proofs.YtfkhljmiehdgmaaGreatDoor
open Go.RowKit
def msW (w:World) (x:Pl.Sx) (b:UInt8):World:=if b=58 then(w.alloc (.cells (qab x) 162)).alloc (.cells (qab x) 162) else w.alloc (.cells (qab x) 162)
set_option maxHeartbeats 1600000 in
theorem qij (x:Pl.Sx) (b:UInt8) (w:World) :
  Calls Tryz.prog 106 #[qad x,.int .u8 b.toNat] w fun e w'=>e=.returned (.bool (Pl.qbv x.st.kind x.st.mode x.ma.far b))∧msW w x b=w':=by
 unfold Pl.qbv
 by_cases hb:b=58
 ·subst hb
  have hI:=fun w=>qbp x w
  have hm:msW w x 58=(w.alloc (.cells (qab x) 162)).alloc (.cells (qab x) 162):=if_pos rfl
  rw[hm]
  by_cases h1:Pl.qcr x.st.kind x.st.mode=true
  ·rw[h1]at hI ⊢
   unfold qad qab bs at hI ⊢
   have HI:=(show Hid _ from hI)
   clear hI h1 hm
   go_enter Tryz.func106,Tryz.ntmps106
   go_wp2_with (go_at_call 153; refine(HI.out _).mono ?_; rintro e w' ⟨rfl,rfl⟩)
   go_ret
   exact⟨rfl,rfl⟩
  ·have h1:=Bool.eq_false_iff.2 h1
   rw[h1]at hI ⊢
   unfold qad qab bs at hI ⊢
   have HI:=(show Hid _ from hI)
   clear hI h1 hm
   go_enter Tryz.func106,Tryz.ntmps106
   go_wp2_with (go_at_call 153; refine(HI.out _).mono ?_; rintro e w' ⟨rfl,rfl⟩)
   go_ret
   exact⟨rfl,rfl⟩
 ·have hm:msW w x b=w.alloc (.cells (qab x) 162):=if_neg hb
  have hb':(b==58)=false:=by rw[beq_eq_false_iff_ne]; exact hb
  have hb2:((b.toNat:Int)==58)=false:=(Pl.qj2 b 58 (by omega)).trans hb'
  rw[hm,hb',Bool.false_and]
  unfold qad qab bs
  clear hm hb hb'
  go_enter Tryz.func106,Tryz.ntmps106
  go_wp2_with fail
  go_ret
  exact⟨rfl,rfl⟩
theorem qts (b:UInt8) (w:World) (h:Pl.qa0 b Pl.qi5=true) :
  Calls Tryz.prog 130 #[.string ⟨#[47,63,35,58]⟩,.int .u8 b.toNat] w fun e w'=>∃ x:Int,0≤x∧e=.returned (.int .i64 x)∧w=w':=
 qb2 b _ Pl.qi5 w rfl h
theorem qn9 (b:UInt8) (w:World) (h:Pl.qa0 b Pl.qi5=false) :
  Calls Tryz.prog 130 #[.string ⟨#[47,63,35,58]⟩,.int .u8 b.toNat] w fun e w'=>e=.returned (.int .i64 (-1))∧w=w':=
 qb4 b _ Pl.qi5 w rfl h
theorem qnm (w:World) (x:Pl.Sx) (b:UInt8):Below w.heap.size w (msW w x b):=by
 unfold msW
 split
 ·exact((Below.refl _ _).alloc (Nat.le_refl _) _).alloc (by simp) _
 ·exact(Below.refl _ _).alloc (Nat.le_refl _) _
set_option maxHeartbeats 1600000 in
theorem qdt (x:Pl.Sx) (b:UInt8) (w:World) :
  Calls Tryz.prog 184 #[qad x,.int .u8 b.toNat] w fun e w'=>e=.returned (.int .i64 (Pl.qcc x.st.kind x.st.mode x.ma.far b))∧Below w.heap.size w w':=by
 have hI:=fun w=>qij x b w
 have hBl:=fun w=>qnm w x b
 have hw:Below w.heap.size w (msW (w.alloc (.cells (qab x) 162)) x b):=((Below.refl _ _).alloc (Nat.le_refl _) _).trans ((hBl _).mono (by simp))
 have hat:SxAt (msW (w.alloc (.cells (qab x) 162)) x b) w.heap.size x:=(qg9 w x _).kept (hBl _) (by simp)
 have q9:=hat.far
 clear hat hBl
 unfold Pl.qcc
 by_cases h1:Pl.qbv x.st.kind x.st.mode x.ma.far b=true
 ·rw[if_pos h1]
  rw[h1]at hI
  generalize hW:msW (w.alloc (.cells (qab x) 162)) x b=W at hw q9
  have hI:=hI (w.alloc (.cells (qab x) 162))
  rw[hW]at hI
  unfold qad qab bs at hI ⊢
  have HI:=(show Hid _ from hI)
  clear hI h1 hW
  go_enter Tryz.func184,Tryz.ntmps184
  go_wp2_with (go_at_call 106; refine(Calls.mono HI.out) ?_; rintro e w' ⟨rfl,rfl⟩)
  go_ret
  exact⟨rfl,hw⟩
 ·rw[if_neg h1]
  rw[Bool.eq_false_iff.2 h1]at hI
  generalize hW:msW (w.alloc (.cells (qab x) 162)) x b=W at hw q9
  have hI:=hI (w.alloc (.cells (qab x) 162))
  rw[hW]at hI
  unfold qad qab bs at hI ⊢
  have HI:=(show Hid _ from hI)
  clear hI h1 hW
  by_cases h2:Pl.qa0 b Pl.qi5=true
  ·rw[if_pos h2]
   go_enter Tryz.func184,Tryz.ntmps184
   go_wp2_with (first | (go_at_call 106; refine(Calls.mono HI.out) ?_; rintro e w' ⟨rfl,rfl⟩) | (go_at_call 130; refine(qts b _ h2).mono ?_; rintro e w' ⟨x',hx',rfl,rfl⟩))
   go_ret
   exact⟨rfl,hw⟩
  ·rw[if_neg h2]
   have h2:=Bool.eq_false_iff.2 h2
   by_cases h3:x.ma.far=0
   ·rw[if_pos h3]
    have h3':(x.ma.far==0)=true:=by rw[h3]; rfl
    clear h3
    go_enter Tryz.func184,Tryz.ntmps184
    go_wp2_with (first | (go_at_call 106; refine(Calls.mono HI.out) ?_; rintro e w' ⟨rfl,rfl⟩) | (go_at_call 130; refine(qn9 b _ h2).mono ?_; rintro e w' ⟨rfl,rfl⟩))
    go_ret
    exact⟨rfl,hw⟩
   ·rw[if_neg h3]
    have h3':(x.ma.far==0)=false:=by rw[beq_eq_false_iff_ne]; exact h3
    clear h3
    go_enter Tryz.func184,Tryz.ntmps184
    go_wp2_with (first | (go_at_call 106; refine(Calls.mono HI.out) ?_; rintro e w' ⟨rfl,rfl⟩) | (go_at_call 130; refine(qn9 b _ h2).mono ?_; rintro e w' ⟨rfl,rfl⟩))
    go_ret
    exact⟨rfl,hw⟩
end Go.Proofs.YtfkhljmiehdgmaaGreatDoor
