/-
  Steps of the proof (texts laid together, blanks left out): PoC, PoD, PoE.
-/
import Derived.Test.YtfkhljmiehdgmaaGreatDoorTaBA
import Derived.Test.YtfkhljmiehdgmaaGreatDoorTaAY
import Derived.Test.YtfkhljmiehdgmaaGreatDoorTaBC
import Derived.Deep.OwnRows
import Derived.Deep.Onto
namespace Go.Proofs.YtfkhljmiehdgmaaGreatDoor
open Go.RowKit Go.Maps
theorem q1a {w:World} {B bS:Nat} {pv:Nat→Value} {S:List Pl.Src} (hsrc:SrcAt w B ⟨0,bS,0,0,0,pv⟩ S) (hB:B≤w.heap.size) :
  Lki w (((((w.alloc (.cells #[.int .i64 0,.int .i64 0,.string ⟨#[]⟩,.int .i64 0] 31)).alloc (.map #[] 0)).alloc (.map #[] 0)).alloc (.map #[] 0)).alloc (.cells #[.slice (some ⟨bS,0,none⟩) S.length S.length,.map (some (w.heap.size+1)),.map (some (w.heap.size+1+1)),.map (some (w.heap.size+1+1+1)),.slice none 0 0,.int .i64 0,.int .i64 0,.string ⟨#[]⟩,.int .i64 0] 178)) B ⟨w.heap.size+1+1+1+1,bS,w.heap.size+1,w.heap.size+1+1,w.heap.size+1+1+1,pv⟩ S w.heap.size 1:=by
 have hb:Below w.heap.size w (((((w.alloc (.cells #[.int .i64 0,.int .i64 0,.string ⟨#[]⟩,.int .i64 0] 31)).alloc (.map #[] 0)).alloc (.map #[] 0)).alloc (.map #[] 0)).alloc (.cells #[.slice (some ⟨bS,0,none⟩) S.length S.length,.map (some (w.heap.size+1)),.map (some (w.heap.size+1+1)),.map (some (w.heap.size+1+1+1)),.slice none 0 0,.int .i64 0,.int .i64 0,.string ⟨#[]⟩,.int .i64 0] 178)):=
  (((((Below.refl _ _).alloc (Nat.le_refl _) _).alloc (by simp<;>omega) _).alloc (by simp<;>omega) _).alloc (by simp<;>omega) _).alloc (by simp<;>omega) _
 have h0:=heap_alloc_new w (.cells #[.int .i64 0,.int .i64 0,.string ⟨#[]⟩,.int .i64 0] 31)
 refine⟨qas _ _ _ (by simp<;>omega),?_,⟨#[],0,?_,rfl⟩,⟨#[],0,?_,rfl⟩,⟨#[],0,?_,rfl⟩,?_,?_,?_,hb.mono hB,?_,fun k hk=>hb.block k hk⟩
 ·refine SrcAt.kept (F:=⟨w.heap.size+1+1+1+1,bS,w.heap.size+1,w.heap.size+1+1,w.heap.size+1+1+1,pv⟩) ⟨hsrc.blk,hsrc.name,hsrc.slice,hsrc.row⟩ (by obtain⟨cs,fz,hc⟩:=hsrc.blk; exact hb.block _ (Array.getElem?_eq_some_iff.1 hc).1) (fun i s k hs hv=>by obtain⟨cur,hc⟩:=qae (hsrc.row i s hs) k hv; exact hb.block _ (Array.getElem?_eq_some_iff.1 hc).1)
 ·exact(heap_alloc_old _ _ (by simp<;>omega)).trans ((heap_alloc_old _ _ (by simp<;>omega)).trans ((heap_alloc_old _ _ (by simp<;>omega)).trans (qas (w.alloc _) _ _ (by simp<;>omega))))
 ·exact(heap_alloc_old _ _ (by simp<;>omega)).trans ((heap_alloc_old _ _ (by simp<;>omega)).trans (qas ((w.alloc _).alloc _) _ _ (by simp<;>omega)))
 ·exact(heap_alloc_old _ _ (by simp<;>omega)).trans (qas (((w.alloc _).alloc _).alloc _) _ _ (by simp<;>omega))
 ·exact(heap_alloc_old _ _ (by simp<;>omega)).trans ((heap_alloc_old _ _ (by simp<;>omega)).trans ((heap_alloc_old _ _ (by simp<;>omega)).trans ((heap_alloc_old _ _ (by simp<;>omega)).trans h0)))
 ·exact⟨by simp only; omega,by simp only; omega,by simp only; omega,by simp only; omega,hB⟩
 ·exact⟨by simp only; omega,by simp only; omega,by simp only; omega,by simp only; omega⟩
 ·exact⟨by simp only; omega,by simp only; omega,Nat.le_refl _,hb.size⟩
theorem qgh {w:World} {g:Nat} {t:TypeId} {u0 u1 u2 u3:Value} (h:w.heap[g]?=some (.cells #[u0,u1,u2,u3] t (0,0))) (v0 v1 v2 v3:Value) :
  ((((w.setCell ⟨g,0,none⟩ v0).setCell ⟨g,1,none⟩ v1).setCell ⟨g,2,none⟩ v2).setCell ⟨g,3,none⟩ v3).heap[g]?=some (.cells #[v0,v1,v2,v3] t (0,0)):=
 qgq (t:=t) [v0,v1,v2,v3] w 0 [] [u0,u1,u2,u3] h rfl rfl
theorem qdj:(31:TypeId)≠178:=by decide
theorem qc0:(31:TypeId)≠173:=by decide
theorem qeq:(31:TypeId)≠229:=by decide
theorem qd5:(31:TypeId)≠205:=by decide
theorem qfb:(31:TypeId)≠3:=by decide
theorem SvAt.other {w:World} {B:Nat} {F:Fix} {S:List Pl.Src} {vv:Value} {M:List Nat} {s:Pl.Sr} (h:SvAt w B F S vv M s) {k:Nat} {cs:Array Value} {t:TypeId} {fz:Nat×Nat} (hk:w.heap[k]?=some (.cells cs t fz)) (h1:t≠178) (h2:t≠173) (h3:t≠229) (h4:t≠205) (h5:t≠3) (j:Nat) (v:Value):SvAt (w.setCell ⟨k,j,none⟩ v) B F S vv M s:=
 h.kept (h.se.other hk h1 h2 h3 j v) fun i hi hty hne=>Below.heap_setCell _ _ _ _ fun e=>by
  subst e
  rcases hty _ _ _ hk with q | q
  ·exact h4 q
  ·exact h5 q
theorem SvAt.fault4 {w:World} {B:Nat} {F:Fix} {S:List Pl.Src} {vv:Value} {M:List Nat} {s:Pl.Sr} (h:SvAt w B F S vv M s) {g:Nat} {u0 u1 u2 u3:Value} (hk:w.heap[g]?=some (.cells #[u0,u1,u2,u3] 31 (0,0))) (v0 v1 v2 v3:Value) :
  SvAt ((((w.setCell ⟨g,0,none⟩ v0).setCell ⟨g,1,none⟩ v1).setCell ⟨g,2,none⟩ v2).setCell ⟨g,3,none⟩ v3) B F S vv M s:=by
 have h1:(w.setCell ⟨g,0,none⟩ v0).heap[g]?=_:=heap_setCell_same _ _ _ _ _ _ hk
 have h2:((w.setCell ⟨g,0,none⟩ v0).setCell ⟨g,1,none⟩ v1).heap[g]?=_:=heap_setCell_same _ _ _ _ _ _ h1
 have h3:(((w.setCell ⟨g,0,none⟩ v0).setCell ⟨g,1,none⟩ v1).setCell ⟨g,2,none⟩ v2).heap[g]?=_:=heap_setCell_same _ _ _ _ _ _ h2
 exact(((h.other hk qdj qc0 qeq qd5 qfb 0 v0).other h1 qdj qc0 qeq qd5 qfb 1 v1).other h2 qdj qc0 qeq qd5 qfb 2 v2).other h3 qdj qc0 qeq qd5 qfb 3 v3
def q4u (w w':World):Prop:=∀(k:Nat) (cs:Array Value) (t:TypeId) (fz:Nat×Nat),w.heap[k]?=some (.cells cs t fz)→t≠205→t≠3→w'.heap[k]?=w.heap[k]?
structure Lkj (w wr:World) (B:Nat) (F:Fix) (S:List Pl.Src) (vv:Value) (M:List Nat) (s:Pl.Sr) (R E:Nat):Prop where
 sv:SvAt wr B F S vv M s
 res:wr.heap[R]?=some (.cells #[.int .i64 0,.int .i64 0,.string ⟨#[]⟩,.int .i64 0] 31 (0,0))
 ent:wr.heap[E]?=some (.cells (qak (0,Pl.Sx.start)) 180 (0,0))
 below:Below B w wr
 le:B≤R
 old:w.heap.size≤F.g∧w.heap.size≤R
 kp:q4u w wr
theorem Lkj.turn {w wr w':World} {B:Nat} {F:Fix} {S:List Pl.Src} {vv vv':Value} {M M':List Nat} {s s':Pl.Sr} {R E:Nat} (h:Lkj w wr B F S vv M s R E) (hs:SvAt w' B F S vv' M' s') (hc:Cuv B F wr w'):Lkj w w' B F S vv' M' s' R E:=
 ⟨hs,(hc.keep R _ _ _ h.res (qaf h.res h.sv.se.blk qdj) qd5 qfb).trans h.res,(hc.keep E _ _ _ h.ent (qaf h.ent h.sv.se.blk qb1) (by decide) (by decide)).trans h.ent,h.below.trans hc.below,h.le,h.old,fun k cs t fz hk h1 h2=>(hc.keep k cs t fz ((h.kp k cs t fz hk h1 h2).trans hk) (by have:=(Array.getElem?_eq_some_iff.1 hk).1; have:=h.old.1; omega) h1 h2).trans (h.kp k cs t fz hk h1 h2)⟩
theorem Lkj.set {w wr:World} {B:Nat} {F:Fix} {S:List Pl.Src} {vv:Value} {M:List Nat} {s:Pl.Sr} {R E:Nat} (h:Lkj w wr B F S vv M s R E) (v0 v1 v2 v3:Value) :
  ((((wr.setCell ⟨R,0,none⟩ v0).setCell ⟨R,1,none⟩ v1).setCell ⟨R,2,none⟩ v2).setCell ⟨R,3,none⟩ v3).heap[R]?=some (.cells #[v0,v1,v2,v3] 31 (0,0))∧Below B w ((((wr.setCell ⟨R,0,none⟩ v0).setCell ⟨R,1,none⟩ v1).setCell ⟨R,2,none⟩ v2).setCell ⟨R,3,none⟩ v3)∧SvAt ((((wr.setCell ⟨R,0,none⟩ v0).setCell ⟨R,1,none⟩ v1).setCell ⟨R,2,none⟩ v2).setCell ⟨R,3,none⟩ v3) B F S vv M s∧q4u w ((((wr.setCell ⟨R,0,none⟩ v0).setCell ⟨R,1,none⟩ v1).setCell ⟨R,2,none⟩ v2).setCell ⟨R,3,none⟩ v3):=
 ⟨qgh h.res _ _ _ _,(((h.below.setCell (p:=⟨R,0,none⟩) h.le v0).setCell (p:=⟨R,1,none⟩) h.le v1).setCell (p:=⟨R,2,none⟩) h.le v2).setCell (p:=⟨R,3,none⟩) h.le v3,h.sv.fault4 h.res _ _ _ _,fun k cs t fz hk h1 h2=>by
  have hne:k≠R:=by have:=(Array.getElem?_eq_some_iff.1 hk).1; have:=h.old.2; omega
  exact(Below.heap_setCell _ _ _ _ hne).trans ((Below.heap_setCell _ _ _ _ hne).trans ((Below.heap_setCell _ _ _ _ hne).trans ((Below.heap_setCell _ _ _ _ hne).trans (h.kp k cs t fz hk h1 h2))))⟩
set_option maxRecDepth 100000 in
set_option maxHeartbeats 12800000 in
theorem q3t (HB:qgn) (S:List Pl.Src) (hS:SrcsOk S) (HTh:ThrC S 258) (w:World) (B bS:Nat) (pv:Nat→Value) (len:Nat) (hsrc:SrcAt w B ⟨0,bS,0,0,0,pv⟩ S) (hB:B≤w.heap.size) (ht:TabB B w) :
  Calls Tryz.prog 45 #[.slice (some ⟨bS,0,none⟩) S.length S.length,.int .i64 len] w fun ed w'=>(∃ v,ed=.returned (.tuple #[v,ql2 (Pl.qdq S len).2])∧((Pl.qdq S len).2.code=0→∃ F M s,SvAt w' B F S v M s∧s.vis=(Pl.qdq S len).1))∧Below B w w'∧q4u w w':=by
 have hL:=q1a hsrc hB
 have HT:=(show Hid (TabB B w) from ht)
 have HHB:=(show Hid (B≤w.heap.size) from hB)
 have hS1:1≤S.length:=hS.few.1
 have hS2:(S.length:Int)≤7:=by have:=hS.few.2; omega
 obtain⟨r,hr⟩:∃ r,r=Pl.qdq S len:=⟨_,rfl⟩
 rw[← hr]
 have HR:=(show Hid _ from hr)
 have hmk:=fun(t:TypeId) (w:World)=>run_makeMap (P:=Tryz.prog) t w
 clear hsrc hB ht hr
 go_enter Tryz.func45,Tryz.ntmps45
 go_wp2_with fail
 obtain⟨F,hF⟩:∃ F:Fix,F=⟨w.heap.size+1+1+1+1,bS,w.heap.size+1,w.heap.size+1+1,w.heap.size+1+1+1,pv⟩:=⟨_,rfl⟩
 rw[← hF]at hL
 have eg:w.heap.size+1+1+1+1=F.g:=by rw[hF]
 have eS:F.bS=bS:=by rw[hF]
 have HL:=(show Hid _ from hL)
 clear hL hF
 generalize World.alloc _ (Obj.cells _ 178)=w1 at HL ⊢
 rw[eg]
 clear eg
 generalize w.heap.size=R at HL ⊢
 have hbg:=fun w=>q2k w
 have est:qad Pl.Sx.start=.agg #[.int .u8 1,.string ⟨#[]⟩,.string ⟨#[]⟩,.int .i64 0,.int .i64 0,.bool false,.bool false,.int .i64 0,.int .i64 0,.int .i64 0]:=rfl
 rw[est]at hbg
 have HBg:=(show Hid _ from hbg)
 have HTr:Hid (∀ w5,SvAt w5 B F S (.slice none 0 0) [] Pl.Sr.zero→TabB B w5→Calls Tryz.prog 75 #[.pointer (some ⟨F.g,0,none⟩),.agg #[.int .i64 0,.int .u8 1,.string ⟨#[]⟩,.string ⟨#[]⟩,.int .i64 0,.int .i64 0,.bool false,.bool false,.int .i64 0,.int .i64 0,.int .i64 0]] w5 fun ed w'=>(∃ r,ed=.returned r)∧(∃ vv' ext,SvAt w' B F S vv' ([]++ext) (Pl.qdk S 258 Pl.Sr.zero (0,Pl.Sx.start)))∧Cuv B F w5 w'):=fun w5 h5 t5=>HTh w5 B F _ [] Pl.Sr.zero (0,Pl.Sx.start) h5 (qqp hS) (by show 258≤0+258; omega) t5
 obtain⟨s1,hs1⟩:∃ s1,s1=Pl.qdk S 258 Pl.Sr.zero (0,Pl.Sx.start):=⟨_,rfl⟩
 have HI:=(show Hid _ from Pl.ql6 S 258 Pl.Sr.zero (0,Pl.Sx.start) (qqp hS) (by show 258≤0+258; omega))
 have hlc:=Pl.qnp S len
 rw[← HR.out,← hs1]at hlc
 rw[← hs1]at HTr HI
 have HLc:=(show Hid _ from hlc)
 clear hbg est hs1 HR hlc hmk
 go_loopw [7] (fun i wr=>∃ n:Nat,1≤n∧n≤S.length∧i=.int .i64 n∧Hid (Lki w wr B F S R n)) (fun i _=>S.length - (intOf i).toNat)
 case atStart=>exact⟨1,Nat.le_refl _,hS1,rfl,HL.out⟩
 case round=>
  obtain⟨n,hn1,hn2,rfl,HK⟩:=hrel
  clear HL
  have hBr:B≤wr.heap.size:=Nat.le_trans HHB.out HK.out.below.size
  by_cases hlt:n<S.length
  ·have hlt2:(n:Int)<(S.length:Int):=by omega
   obtain⟨src,hsrc⟩:∃ src,S[n]?=some src:=⟨S[n],List.getElem?_eq_getElem hlt⟩
   have b1:wr.cell? ⟨F.g,1,none⟩=some (.map (some F.bp)):=qaa HK.out.blk 1 _ rfl
   have b2:wr.cell? ⟨bS,n*2,none⟩=some (.string ⟨src.name.toArray⟩):=by
    have:=HK.out.src.name n src hsrc
    rw[eS]at this
    exact this
   obtain⟨w3,hrun,hK3,hsz⟩:=(HK.out.drew hBr).put hS hn1 hsrc
   have HK3:=(show Hid _ from hK3)
   clear hK3 hsz hsrc hBr
   go_wp2_with fail
   go_region
   all_goals
    go_wp2_with fail
    go_roundw
    case rel=>exact⟨n+1,by omega,by omega,by go_num,HK3.out⟩
    case measure=>simp[intOf]; omega
  ·have hlt2:¬(n:Int)<(S.length:Int):=by omega
   have hne:S.length≤n:=by omega
   have HN:=(show Hid _ from hne)
   clear hlt hne hn1 hn2
   go_wp2_with fail
   refine(HBg.out _).mono ?_; rintro ed w2 ⟨rfl,hw2⟩
   have HK2:Hid (Lki w w2 B F S R n):=by rw[← hw2]; exact HK.out.next ((Below.refl _ _).alloc (Nat.le_refl _) _) hBr
   have hB2:B≤w2.heap.size:=Nat.le_trans HHB.out HK2.out.below.size
   have HB2:=(show Hid (B≤w2.heap.size) from hB2)
   clear hw2 HK hBr hB2
   go_wp2_with fail
   have HK4:=(show Hid _ from HK2.out.next ((Below.refl _ _).alloc (Nat.le_refl _) (.cells (qak (0,Pl.Sx.start)) 180)) HB2.out)
   have HJ4:Hid (Lkj w (w2.alloc (.cells (qak (0,Pl.Sx.start)) 180)) B F S (.slice none 0 0) [] Pl.Sr.zero R w2.heap.size):=⟨HK4.out.start HN.out,HK4.out.res,heap_alloc_new _ _,HK4.out.below,HK4.out.le.2.2.2.2,⟨HK4.out.old.1,HK4.out.old.2.2.1⟩,fun k _ _ _ hk _ _=>HK4.out.kp k (Array.getElem?_eq_some_iff.1 hk).1⟩
   refine(HTr.out _ HJ4.out.sv (TabB.kept HT.out HJ4.out.below)).mono ?_; rintro ed w6 ⟨⟨r6,rfl⟩,⟨vv',ext,hsv⟩,hcu⟩
   have HJ6:=(show Hid _ from HJ4.out.turn hsv hcu)
   clear hsv hcu HK4 HJ4 HK2
   generalize w2.heap.size=E at HJ6 ⊢
   by_cases h0:s1.fault.code=0
   rotate_left
   ·have hc0:((s1.fault.code:Int)==0)=false:=by rw[beq_eq_false_iff_ne]; omega
    have hc1:((s1.fault.code:Int) != 0)=true:=by rw[bne_iff_ne]; omega
    have HX:Hid (r=([],s1.fault)):=by show _=_; rw[HLc.out,if_pos h0]
    have H0:=(show Hid _ from h0)
    have b5:w6.cell? ⟨F.g,5,none⟩=some (.int .i64 (s1.fault.code:Nat)):=HJ6.out.sv.se.cell 5 _ rfl
    have b6:w6.cell? ⟨F.g,6,none⟩=some (.int .i64 s1.fault.kind):=HJ6.out.sv.se.cell 6 _ rfl
    have b7:w6.cell? ⟨F.g,7,none⟩=some (.string ⟨s1.fault.place.toArray⟩):=HJ6.out.sv.se.cell 7 _ rfl
    have b8:w6.cell? ⟨F.g,8,none⟩=some (.int .i64 (s1.fault.pos:Nat)):=HJ6.out.sv.se.cell 8 _ rfl
    have x0:w6.cell? ⟨R,0,none⟩=some (.int .i64 0):=qaa HJ6.out.res 0 _ rfl
    have x1:w6.cell? ⟨R,1,none⟩=some (.int .i64 0):=qaa HJ6.out.res 1 _ rfl
    have x2:w6.cell? ⟨R,2,none⟩=some (.string ⟨#[]⟩):=qaa HJ6.out.res 2 _ rfl
    have x3:w6.cell? ⟨R,3,none⟩=some (.int .i64 0):=qaa HJ6.out.res 3 _ rfl
    have z0:w6.frozen? ⟨R,0,none⟩=false:=by simp[World.frozen?,HJ6.out.res]
    have z1:w6.frozen? ⟨R,1,none⟩=false:=by simp[World.frozen?,HJ6.out.res]
    have z2:w6.frozen? ⟨R,2,none⟩=false:=by simp[World.frozen?,HJ6.out.res]
    have z3:w6.frozen? ⟨R,3,none⟩=false:=by simp[World.frozen?,HJ6.out.res]
    clear h0
    go_wp2_with fail
    go_region
    all_goals
     go_wp2_with fail
     have hf:=HJ6.out.set (.int .i64 (s1.fault.code:Nat)) (.int .i64 s1.fault.kind) (.string ⟨s1.fault.place.toArray⟩) (.int .i64 (s1.fault.pos:Nat))
     refine qef Tryz.results45 rfl R (.slice none 0 0) _ rfl rfl hf.1 _ Tryz.underlying31 rfl (by kernel_rfl) ?_
     exact⟨⟨_,by rw[HX.out]; rfl,fun q=>absurd q (by rw[HX.out]; exact H0.out)⟩,hf.2.1.drew,hf.2.2.2⟩
   ·have hc0:((s1.fault.code:Int)==0)=true:=by rw[h0]; rfl
    have b5:w6.cell? ⟨F.g,5,none⟩=some (.int .i64 (s1.fault.code:Nat)):=HJ6.out.sv.se.cell 5 _ rfl
    have he:=qca HJ6.out.ent
    have een:qak (0,Pl.Sx.start)=#[.int .i64 0,.int .u8 1,.string ⟨#[]⟩,.string ⟨#[]⟩,.int .i64 0,.int .i64 0,.bool false,.bool false,.int .i64 0,.int .i64 0,.int .i64 0]:=rfl
    rw[een]at he
    have m0:=he 0 _ rfl
    have m1:=he 1 _ rfl
    have m2:=he 2 _ rfl
    have m3:=he 3 _ rfl
    have m4:=he 4 _ rfl
    have m5:=he 5 _ rfl
    have m6:=he 6 _ rfl
    have m7:=he 7 _ rfl
    have m8:=he 8 _ rfl
    have m9:=he 9 _ rfl
    have m10:=he 10 _ rfl
    have hB6:B≤w6.heap.size:=Nat.le_trans HHB.out HJ6.out.below.size
    have hce:=qt3 HB S hS w6 B F vv' s1 (0,Pl.Sx.start) len HJ6.out.sv.se HI.out.1.ends Pl.qm5 hS1 hB6 (TabB.kept HT.out HJ6.out.below)
    have HCe:Hid (Calls Tryz.prog 76 #[.pointer (some ⟨F.g,0,none⟩),.agg #[.int .i64 0,.int .u8 1,.string ⟨#[]⟩,.string ⟨#[]⟩,.int .i64 0,.int .i64 0,.bool false,.bool false,.int .i64 0,.int .i64 0,.int .i64 0],.int .i64 len] w6 fun ed w'=>(∃ r,ed=.returned r)∧SeAt w' B F S vv' (Pl.qgy S s1 (0,Pl.Sx.start) len)∧Cue B F w6 w'):=hce
    have hcn:=Pl.qv8 S s1 (0,Pl.Sx.start) len HI.out.1.ends Pl.qm5
    have hlc:r=if(Pl.qgy S s1 (0,Pl.Sx.start) len).fault.code≠0 then([],(Pl.qgy S s1 (0,Pl.Sx.start) len).fault) else((Pl.qgy S s1 (0,Pl.Sx.start) len).vis,Pl.Ft.none):=by rw[HLc.out,if_neg (fun q=>q h0)]
    clear hce he een h0 hB6
    generalize Pl.qgy S s1 (0,Pl.Sx.start) len=s2 at HCe hcn hlc
    have HL2:=(show Hid _ from hlc)
    have HN2:=(show Hid _ from hcn)
    clear hlc hcn
    go_wp2_with fail
    refine HCe.out.mono ?_; rintro ed w7 ⟨⟨r7,rfl⟩,hse,hcu⟩
    have HJ7:=(show Hid _ from HJ6.out.turn (HJ6.out.sv.turn hse hcu HN2.out.1 HN2.out.2) (Cuv.of_cue HJ6.out.sv.se hcu))
    clear hse hcu HJ6 HCe b5 m0 m1 m2 m3 m4 m5 m6 m7 m8 m9 m10 hc0
    by_cases h0:s2.fault.code=0
    rotate_left
    ·have hc1:((s2.fault.code:Int) != 0)=true:=by rw[bne_iff_ne]; omega
     have HX:Hid (r=([],s2.fault)):=by show _=_; rw[HL2.out,if_pos h0]
     have H0:=(show Hid _ from h0)
     have b5:w7.cell? ⟨F.g,5,none⟩=some (.int .i64 (s2.fault.code:Nat)):=HJ7.out.sv.se.cell 5 _ rfl
     have b6:w7.cell? ⟨F.g,6,none⟩=some (.int .i64 s2.fault.kind):=HJ7.out.sv.se.cell 6 _ rfl
     have b7:w7.cell? ⟨F.g,7,none⟩=some (.string ⟨s2.fault.place.toArray⟩):=HJ7.out.sv.se.cell 7 _ rfl
     have b8:w7.cell? ⟨F.g,8,none⟩=some (.int .i64 (s2.fault.pos:Nat)):=HJ7.out.sv.se.cell 8 _ rfl
     have x0:w7.cell? ⟨R,0,none⟩=some (.int .i64 0):=qaa HJ7.out.res 0 _ rfl
     have x1:w7.cell? ⟨R,1,none⟩=some (.int .i64 0):=qaa HJ7.out.res 1 _ rfl
     have x2:w7.cell? ⟨R,2,none⟩=some (.string ⟨#[]⟩):=qaa HJ7.out.res 2 _ rfl
     have x3:w7.cell? ⟨R,3,none⟩=some (.int .i64 0):=qaa HJ7.out.res 3 _ rfl
     have z0:w7.frozen? ⟨R,0,none⟩=false:=by simp[World.frozen?,HJ7.out.res]
     have z1:w7.frozen? ⟨R,1,none⟩=false:=by simp[World.frozen?,HJ7.out.res]
     have z2:w7.frozen? ⟨R,2,none⟩=false:=by simp[World.frozen?,HJ7.out.res]
     have z3:w7.frozen? ⟨R,3,none⟩=false:=by simp[World.frozen?,HJ7.out.res]
     clear h0
     go_wp2_with fail
     go_region
     all_goals
      go_wp2_with fail
      have hf:=HJ7.out.set (.int .i64 (s2.fault.code:Nat)) (.int .i64 s2.fault.kind) (.string ⟨s2.fault.place.toArray⟩) (.int .i64 (s2.fault.pos:Nat))
      refine qef Tryz.results45 rfl R (.slice none 0 0) _ rfl rfl hf.1 _ Tryz.underlying31 rfl (by kernel_rfl) ?_
      exact⟨⟨_,by rw[HX.out]; rfl,fun q=>absurd q (by rw[HX.out]; exact H0.out)⟩,hf.2.1.drew,hf.2.2.2⟩
    ·have hc1:((s2.fault.code:Int) != 0)=false:=by rw[h0]; rfl
     have HX:Hid (r=(s2.vis,Pl.Ft.none)):=by show _=_; rw[HL2.out,if_neg (fun q=>q h0)]
     have b4:w7.cell? ⟨F.g,4,none⟩=some vv':=HJ7.out.sv.se.cell 4 _ rfl
     have b5:w7.cell? ⟨F.g,5,none⟩=some (.int .i64 (s2.fault.code:Nat)):=HJ7.out.sv.se.cell 5 _ rfl
     have b6:w7.cell? ⟨F.g,6,none⟩=some (.int .i64 s2.fault.kind):=HJ7.out.sv.se.cell 6 _ rfl
     have b7:w7.cell? ⟨F.g,7,none⟩=some (.string ⟨s2.fault.place.toArray⟩):=HJ7.out.sv.se.cell 7 _ rfl
     have b8:w7.cell? ⟨F.g,8,none⟩=some (.int .i64 (s2.fault.pos:Nat)):=HJ7.out.sv.se.cell 8 _ rfl
     have x0:w7.cell? ⟨R,0,none⟩=some (.int .i64 0):=qaa HJ7.out.res 0 _ rfl
     have x1:w7.cell? ⟨R,1,none⟩=some (.int .i64 0):=qaa HJ7.out.res 1 _ rfl
     have x2:w7.cell? ⟨R,2,none⟩=some (.string ⟨#[]⟩):=qaa HJ7.out.res 2 _ rfl
     have x3:w7.cell? ⟨R,3,none⟩=some (.int .i64 0):=qaa HJ7.out.res 3 _ rfl
     have z0:w7.frozen? ⟨R,0,none⟩=false:=by simp[World.frozen?,HJ7.out.res]
     have z1:w7.frozen? ⟨R,1,none⟩=false:=by simp[World.frozen?,HJ7.out.res]
     have z2:w7.frozen? ⟨R,2,none⟩=false:=by simp[World.frozen?,HJ7.out.res]
     have z3:w7.frozen? ⟨R,3,none⟩=false:=by simp[World.frozen?,HJ7.out.res]
     clear h0
     go_wp2_with fail
     have hf:=HJ7.out.set (.int .i64 0) (.int .i64 0) (.string ⟨#[]⟩) (.int .i64 0)
     refine qef Tryz.results45 rfl R vv' _ rfl rfl hf.1 _ Tryz.underlying31 rfl (by kernel_rfl) ?_
     exact⟨⟨_,by rw[HX.out]; rfl,fun _=>⟨F,_,s2,hf.2.2.1,by rw[HX.out]⟩⟩,hf.2.1,hf.2.2.2⟩
theorem qkw {P:Program} (w:World) {ops:Array Oper} {rest:List Oper} {o:Oper} {a:Act} {Q:Exit→Act→World→Prop}
  (hg:o.guard=none) (s x:Operand) (t:TypeId) (ho:o.op=.call { callee:=.builtin .append,args:=#[s,x],argTypes:=#[t,t] }) (sv xv v':Value) (w':World) (hs:a.eval s=sv) (hx:a.eval x=xv)
  (hrun:(Builtin.append_ #[t,t] o.type #[sv,xv]).run P w=.ok v' w') (hK:wpList P ops Q rest (a.put o.dst v') w'):wpList P ops Q (o::rest) a w:=by
 refine wpList_plain hg fun K hK'=>?_
 unfold Oper.wp execOp
 simp only[ho,resolve,invoke,builtin,Sem.run_bind,Sem.run_pure,Result.andThen_ok,List.map_toArray,List.map_cons,List.map_nil,hs,hx,hrun]
 exact hK' _ _ hK
theorem qta:(Tryz.prog.info? 38).map (fun i=>(i.zero,i.size,i.bytes))=some (some (.agg #[.string ⟨#[]⟩,.string ⟨#[]⟩]),2,32):=by kernel_rfl
theorem qvx:(Tryz.prog.info? 173).map (fun i=>(i.zero,i.size,i.bytes))=some (some (.agg #[.string ⟨#[]⟩,.slice none 0 0]),2,40):=by kernel_rfl
def qht (L:List (ByteArray×ByteArray)):List Value:=L.flatMap fun x=>[.string x.1,.string x.2]
theorem qnj (L:List (ByteArray×ByteArray)):(qht L).length=L.length*2:=by
 induction L with
 | nil=>rfl
 | cons x L ih=>show (qht L).length+2=_; rw[ih,List.length_cons]; omega
theorem qi1:∀(L:List (ByteArray×ByteArray)) (k:Nat) (x:ByteArray×ByteArray),L[k]?=some x→(qht L)[k*2]?=some (.string x.1)∧(qht L)[k*2+1]?=some (.string x.2)
 | [],k,x,h=>by simp at h
 | y::L,0,x,h=>by simp at h; subst h; exact⟨rfl,rfl⟩
 | y::L,k+1,x,h=>by
   have:=qi1 L k x (by simpa using h)
   rw[show (k+1)*2=k*2+1+1 by omega,show k*2+1+1+1=(k*2+1)+1+1 by omega]
   exact this
theorem qya {w:World} {b:Nat} {L:List (ByteArray×ByteArray)} (h:PsAt w b L):∀ j v,(qht L)[j]?=some v→w.cell? ⟨b,j,none⟩=some v:=by
 intro j v hj
 have hl:=(List.getElem?_eq_some_iff.1 hj).1
 rw[qnj]at hl
 obtain⟨x,hx⟩:∃ x,L[j / 2]?=some x:=⟨L[j / 2]'(by omega),List.getElem?_eq_getElem (by omega)⟩
 obtain⟨h1,h2⟩:=qi1 L (j / 2) x hx
 rcases(show j=j / 2*2∨j=j / 2*2+1 by omega)with e | e
 ·rw[e]at hj ⊢
  rw[h1]at hj
  obtain rfl:=Option.some.inj hj
  exact h.name _ x hx
 ·rw[e]at hj ⊢
  rw[h2]at hj
  obtain rfl:=Option.some.inj hj
  exact h.text _ x hx
theorem all_append (T:ByteArray) (v:Value) (L:List (ByteArray×ByteArray)) (w w1:World) (b1:Nat) (hA:qop w v L) (hL:L.length≤6) (hb:Below w.heap.size w w1) (h0:w1.cell? ⟨b1,0,none⟩=some (.string ⟨#[]⟩)) (h1:w1.cell? ⟨b1,1,none⟩=some (.string T)) :
  ∃ b cap w',(∀ ty,(Builtin.append_ #[22,22] ty #[.slice (some ⟨b1,0,none⟩) 1 1,v]).run Tryz.prog w1=.ok (.slice (some ⟨b,0,none⟩) (L.length+1) cap) w')∧PsAt w' b ((⟨#[]⟩,T)::L)∧Below w1.heap.size w1 w':=by
 obtain⟨i0,hi0,hz0,hz1,hz2⟩:=info_parts qta
 obtain⟨ao,cap,rfl,hc1,hc2,hne⟩:=hA
 by_cases hn:L=[]
 ·subst hn
  refine⟨b1,1,w1,fun ty=>?_,⟨fun k x hx=>?_,fun k x hx=>?_⟩,Below.refl _ _⟩
  ·cases ao with
   | none=>simp[Builtin.append_,run_underlying Tryz.underlying22,sizeOf,typeInfo,hi0,Builtin.lenOf,Builtin.firstCells,storeCells]
   | some a=>simp[Builtin.append_,run_underlying Tryz.underlying22,sizeOf,typeInfo,hi0,Builtin.lenOf,Builtin.firstCells,storeCells,loadCells,loadCellsFrom]
  ·cases k with
   | zero=>simp at hx; subst hx; exact h0
   | succ k=>simp at hx
  ·cases k with
   | zero=>simp at hx; subst hx; exact h1
   | succ k=>simp at hx
 ·obtain⟨b,rfl,hps⟩:=hne hn
  have hpos:0<L.length:=List.length_pos_iff.2 hn
  have hps1:PsAt w1 b L:=⟨fun k x hx=>(hb.cell (p:=⟨b,k*2,none⟩) (World.block_lt_of_cell? _ _ (hps.name k x hx))).trans (hps.name k x hx),fun k x hx=>(hb.cell (p:=⟨b,k*2+1,none⟩) (World.block_lt_of_cell? _ _ (hps.text k x hx))).trans (hps.text k x hx)⟩
  have hg:=fun ty=>run_append_grow (P:=Tryz.prog) w1 22 ty 38 i0 _ Tryz.underlying22 hi0 hz0 ⟨b1,0,none⟩ 1 1 [.string ⟨#[]⟩,.string T] (by rw[hz1]; rfl) (fun j v hj=>by
    match j,hj with
    | 0,hj=>simp at hj; subst hj; simpa [Addr.add] using h0
    | 1,hj=>simp at hj; subst hj; simpa [Addr.add] using h1) ⟨b,0,none⟩ L.length cap (qht L) (by rw[hz1]; exact qnj L) (fun j v hj=>by have:=qya hps1 j v hj; have hadd:(⟨b,0,none⟩:Addr).add j=⟨b,j,none⟩:=(by unfold Addr.add; split<;>simp_all); rw[hadd]; exact this) (by omega) (by omega) (by
      rw[hz2]
      have:Builtin.nextslicecap (1+L.length) 1≤7:=by
       rcases(show L.length=1∨L.length=2∨L.length=3∨L.length=4∨L.length=5∨L.length=6 by omega)with e | e | e | e | e | e<;>rw[e]<;>decide
      omega)
  refine⟨w1.heap.size,_,_,fun ty=>by rw[Nat.add_comm L.length 1]; exact hg ty,?_,?_⟩
  ·have hcell:∀ j v,(qht ((⟨#[]⟩,T)::L))[j]?=some v→(w1.drew.alloc (.cells ([Value.string ⟨#[]⟩,.string T].toArray++(qht L).toArray++Builtin.zeroCells (Value.agg #[.string ⟨#[]⟩,.string ⟨#[]⟩]).cells (grownCap w1 (1+L.length) 1 38 - (1+L.length))) 38)).cell? ⟨w1.heap.size,j,none⟩=some v:=fun j v hj=>by
    refine qaa (heap_alloc_new w1.drew _) j v ?_
    rw[Array.toList_append,Array.toList_append]
    rw[List.getElem?_append_left (by have:=(List.getElem?_eq_some_iff.1 hj).1; simpa [qht] using this)]
    exact hj
   refine⟨fun k x hx=>hcell _ _ (qi1 _ k x hx).1,fun k x hx=>hcell _ _ (qi1 _ k x hx).2⟩
  ·exact(Below.refl _ _).drew.alloc (Nat.le_refl _) _
theorem qvc (n:Nat) (hn:n≤7) (w:World):(Instr.makeSlice 115 (.int .i64 (n:Int)) (.int .i64 (n:Int))).run Tryz.prog w=.ok (.slice (some ⟨w.heap.size,0,none⟩) n n) (w.alloc (.cells (madeCells #[.string ⟨#[]⟩,.slice none 0 0] (n*2)) 173)):=by
 obtain⟨i0,hi0,hz0,hz1,hz2⟩:=info_parts qvx
 have hr:=run_make (P:=Tryz.prog) w 115 173 i0 _ Tryz.underlying115 hi0 hz0 .i64 .i64 n n (by omega) (Int.le_refl _) (by rw[hz2]; omega) (by omega)
 have e:(Value.agg #[.string ⟨#[]⟩,.slice none 0 0]).cells=#[.string ⟨#[]⟩,.slice none 0 0]:=rfl
 rw[hz1,e]at hr
 simpa using hr
namespace Pl
theorem qob:∀(Z:List (List UInt8×List UInt8)),(∀(i:Nat) z,Z[i]?=some z→(qav z.2).1.1=0)→qa8 Z=(Ft.none,Z.map fun z=>⟨z.1,(qav z.2).2⟩)
 | [],_=>rfl
 | (n,t)::l,h=>by
   have h0:(qav t).1.1=0:=h 0 (n,t) rfl
   have ih:=qob l (fun i z hz=>h (i+1) z (by simpa using hz))
   unfold qa8
   rw[if_neg (fun q=>q h0),ih,if_neg (by simp[Ft.none])]
   rfl
theorem qp0:∀(Z:List (List UInt8×List UInt8)) (k:Nat) (z:List UInt8×List UInt8),(∀(i:Nat) y,i<k→Z[i]?=some y→(qav y.2).1.1=0)→Z[k]?=some z→(qav z.2).1.1≠0→qa8 Z=(⟨2,(qav z.2).1.1,z.1,(qav z.2).1.2⟩,[])
 | [],k,z,_,h,_=>by simp at h
 | (n,t)::l,0,z,_,h,hz=>by
   simp at h
   subst h
   exact qtt hz
 | (n,t)::l,k+1,z,hk,h,hz=>by
   have h0:(qav t).1.1=0:=hk 0 (n,t) (by omega) rfl
   have ih:=qp0 l k z (fun i y hi hy=>hk (i+1) y (by omega) (by simpa using hy)) (by simpa using h) hz
   unfold qa8
   rw[if_neg (fun q=>q h0),ih,if_pos (by simp)]
end Pl
theorem q3g {L:List (ByteArray×ByteArray)} {k:Nat} {x:ByteArray×ByteArray} (h:L[k]?=some x):(qa9 L)[k]?=some (x.1.data.toList,x.2.data.toList):=by
 unfold qa9; rw[List.getElem?_map,h]; rfl
theorem q3f {L:List (ByteArray×ByteArray)} {k:Nat} {z:List UInt8×List UInt8} (h:(qa9 L)[k]?=some z):∃ x,L[k]?=some x∧z=(x.1.data.toList,x.2.data.toList):=by
 unfold qa9 at h
 rw[List.getElem?_map]at h
 obtain⟨x,h1,h2⟩:=Option.map_eq_some_iff.1 h
 exact⟨x,h1,h2.symm⟩
structure CAi (w wr:World) (b g R:Nat) (LL:List (ByteArray×ByteArray)) (f:Nat→Value) (k:Nat):Prop where
 ps:PsAt wr b LL
 blk:wr.rowIs g 173 (LL.length*2) f
 name:∀(i:Nat) x,i<k→LL[i]?=some x→f (i*2)=.string x.1
 row:∀(i:Nat) x,i<k→LL[i]?=some x→wr.ownsRow w.heap.size 229 4 (f (i*2+1)) (Pl.qav x.2.data.toList).2.length (qbq (Pl.qav x.2.data.toList).2)
 res:wr.heap[R]?=some (.cells #[.int .i64 0,.int .i64 0,.string ⟨#[]⟩,.int .i64 0] 31 (0,0))
 below:Below w.heap.size w wr
 le:w.heap.size≤R∧w.heap.size≤g
 ne:b≠g
theorem CAi.next {w wr w':World} {b g R:Nat} {LL:List (ByteArray×ByteArray)} {f:Nat→Value} {k:Nat} (h:CAi w wr b g R LL f k) (hb:Below wr.heap.size wr w'):CAi w w' b g R LL f k:=
 ⟨⟨fun k x hx=>(hb.cell (p:=⟨b,k*2,none⟩) (World.block_lt_of_cell? _ _ (h.ps.name k x hx))).trans (h.ps.name k x hx),fun k x hx=>(hb.cell (p:=⟨b,k*2+1,none⟩) (World.block_lt_of_cell? _ _ (h.ps.text k x hx))).trans (h.ps.text k x hx)⟩,
  h.blk.of_block (hb.block _ h.blk.lt),h.name,fun i x hi hx=>qah (h.row i x hi hx) (fun q hq=>hb.block q ((h.row i x hi hx).lt q hq).2),(hb.block _ (Array.getElem?_eq_some_iff.1 h.res).1).trans h.res,h.below.trans (hb.mono h.below.size),h.le,h.ne⟩
theorem qos:(173:TypeId)≠229:=by decide
theorem CAi.put {w wr:World} {b g R:Nat} {LL:List (ByteArray×ByteArray)} {f:Nat→Value} {k:Nat} (h:CAi w wr b g R LL f k) {x:ByteArray×ByteArray} (hx:LL[k]?=some x) {v:Value} (hv:wr.ownsRow w.heap.size 229 4 v (Pl.qav x.2.data.toList).2.length (qbq (Pl.qav x.2.data.toList).2)) :
  ∃ f',CAi w ((wr.setCell ⟨g,k*2,none⟩ (.string x.1)).setCell ⟨g,k*2+1,none⟩ v) b g R LL f' (k+1):=by
 have hfar:∀ q,q≠g→((wr.setCell ⟨g,k*2,none⟩ (.string x.1)).setCell ⟨g,k*2+1,none⟩ v).heap[q]?=wr.heap[q]?:=fun q hq=>(Below.heap_setCell _ _ _ _ hq).trans (Below.heap_setCell _ _ _ _ hq)
 have hrow:∀ {u:Value} {n:Nat} {xs:List Value},wr.ownsRow w.heap.size 229 4 u n xs→((wr.setCell ⟨g,k*2,none⟩ (.string x.1)).setCell ⟨g,k*2+1,none⟩ v).ownsRow w.heap.size 229 4 u n xs:=fun hu=>qah hu fun q hq=>by
  obtain⟨cur,hc⟩:=qae hu q hq
  obtain⟨c,hb,_,_⟩:=h.blk
  exact hfar q (qaf hc hb qos.symm)
 have hRg:R≠g:=by
  obtain⟨c,hb,_,_⟩:=h.blk
  exact qaf h.res hb qc0
 have hb2:=(h.blk.set (k*2) (.string x.1)).set (k*2+1) v
 refine⟨_,⟨fun i y hy=>(World.cell?_of_block (w:=wr) (hfar b h.ne)).trans (h.ps.name i y hy),fun i y hy=>(World.cell?_of_block (w:=wr) (hfar b h.ne)).trans (h.ps.text i y hy)⟩,hb2,fun i y hi hy=>?_,fun i y hi hy=>?_,(hfar R hRg).trans h.res,(h.below.setCell (p:=⟨g,k*2,none⟩) h.le.2 _).setCell (p:=⟨g,k*2+1,none⟩) h.le.2 _,h.le,h.ne⟩
 ·show (if i*2=k*2+1 then v else if i*2=k*2 then .string x.1 else f (i*2))=_
  rw[if_neg (by omega)]
  by_cases e:i=k
  ·subst e
   rw[if_pos rfl]
   rw[hx]at hy
   obtain rfl:=Option.some.inj hy
   rfl
  ·rw[if_neg (by omega)]
   exact h.name i y (by omega) hy
 ·show World.ownsRow _ _ _ _ (if i*2+1=k*2+1 then v else if i*2+1=k*2 then .string x.1 else f (i*2+1)) _ _
  by_cases e:i=k
  ·subst e
   rw[if_pos rfl]
   rw[hx]at hy
   obtain rfl:=Option.some.inj hy
   exact hrow hv
  ·rw[if_neg (by omega),if_neg (by omega)]
   exact hrow (h.row i y (by omega) hy)
theorem CAi.sources {w wr:World} {b g R:Nat} {LL:List (ByteArray×ByteArray)} {f:Nat→Value} (h:CAi w wr b g R LL f LL.length):SrcAt wr w.heap.size ⟨0,g,0,0,0,fun i=>f (i*2+1)⟩ ((qa9 LL).map fun z=>⟨z.1,(Pl.qav z.2).2⟩):=by
 have hx:∀(i:Nat) (s:Pl.Src),((qa9 LL).map fun z=>(⟨z.1,(Pl.qav z.2).2⟩:Pl.Src))[i]?=some s→∃ x,LL[i]?=some x∧s=⟨x.1.data.toList,(Pl.qav x.2.data.toList).2⟩∧i<LL.length:=fun i s hs=>by
  rw[List.getElem?_map]at hs
  obtain⟨z,h1,h2⟩:=Option.map_eq_some_iff.1 hs
  obtain⟨x,h3,h4⟩:=q3f h1
  exact⟨x,h3,by rw[← h2,h4],(List.getElem?_eq_some_iff.1 h3).1⟩
 obtain⟨c,hb,hc,_⟩:=h.blk
 refine⟨⟨c,_,hb⟩,fun i s hs=>?_,fun i s hs=>?_,fun i s hs=>?_⟩
 ·obtain⟨x,h1,rfl,h3⟩:=hx i s hs
  show wr.cell? ⟨g,i*2,none⟩=_
  rw[h.blk.cell (by omega),h.name i x h3 h1]
  rfl
 ·obtain⟨x,h1,rfl,h3⟩:=hx i s hs
  exact h.blk.cell (by omega)
 ·obtain⟨x,h1,rfl,h3⟩:=hx i s hs
  exact h.row i x h3 h1
end Go.Proofs.YtfkhljmiehdgmaaGreatDoor
