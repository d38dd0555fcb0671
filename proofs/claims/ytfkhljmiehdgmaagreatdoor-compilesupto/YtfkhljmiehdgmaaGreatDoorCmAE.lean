/-
  Steps of the proof.
-/
import Derived.Test.YtfkhljmiehdgmaaGreatDoorCmAD
import Derived.Maps.OwnOps
set_option maxRecDepth 100000
set_option maxHeartbeats 40000000
namespace Go.Proofs.YtfkhljmiehdgmaaGreatDoor
open Go.RowKit
theorem qfe{w:World}{B n k:Nat}{e:TypeId}{v:Value}{xs:List Value}(h:w.ownsRow B e k v n xs):∃ao cap,v=.slice ao n cap:=by
 rcases h.2 with ⟨rfl,rfl⟩ | ⟨g,cap,cur,hv,_⟩
 ·exact⟨none,0,rfl⟩
 ·exact⟨_,_,hv⟩
theorem qft{w:World}{B n k g cap:Nat}{e:TypeId}{xs:List Value}(h:w.ownsRow B e k (.slice (some ⟨g,0,none⟩) n cap) n xs)(j:Nat)(u:Value)(hu:xs[j]?=some u):w.cell? ⟨g,j,none⟩=some u:=by
 have:=World.ownsRow.cells h (g:=g) rfl j u hu;have e:(⟨g,0,none⟩:Addr).add j=⟨g,j,none⟩:=by simp only[Addr.add,Nat.zero_add];split<;>simp_all
 rw[e]at this;exact this
theorem qkl(L:List Nat)(k m:Nat)(h:L[k]?=some m):(qby L)[k]?=some (.int .i64 m):=by simp[qby,h]
theorem qh5(k:Nat)(h:k≤1000000000):IntKind.i64.wrap (k:Int)=k:=by
 rw[IntKind.wrap_i64];omega
def qgu(k p:Nat):Value:=.agg #[.int .i64 k,.int .i64 p]
theorem quc(w:World)(B g:Nat)(t:List UInt8)(c:Pl.Ct)(vp vo:Value)(h:CtAt w B g t c vp vo)(hO:∀m∈c.opened,m<c.parts.length)(hn:c.parts.length≤4000)(h6:c.opened.length≤6) :
  Calls Tryz.prog 148 #[.pointer (some ⟨g,0,none⟩)] w fun e w'=>e=.returned (qgu c.left.1 c.left.2)∧Below w.heap.size w w':=by
 have b3:∀o,(w.alloc o).cell? ⟨g,3,none⟩=some vp:=fun o=>(h.alloc o).cell 3 _ rfl;have b4:∀o,(w.alloc o).cell? ⟨g,4,none⟩=some vo:=fun o=>(h.alloc o).cell 4 _ rfl;by_cases h0:c.opened.length=0
 ·have HV:Hid (c.left=(0,0)):=by show _=_;unfold Pl.Ct.left;rw[List.length_eq_zero_iff.1 h0];rfl
  obtain⟨ao,cap,rfl⟩:=qfe h.opened;rw[HV.out];rw[h0]at b4;clear HV h hO hn h6 h0;unfold qgu;go_enter Tryz.func148,Tryz.ntmps148
  go_wp2_with fail
  refine bodyPost_ret (qbk Tryz.results148 _ _ w.heap.size _ _ rfl (qaa (heap_alloc_new w _)) Tryz.underlying169 rfl (by kernel_rfl)) rfl ?_;exact⟨rfl,ba _⟩
 ·obtain⟨k,hk⟩:∃k,c.opened.length=k+1:=⟨c.opened.length - 1,by omega⟩
  have hx:c.opened[k]?=some c.opened[k]:=List.getElem?_eq_getElem (by omega);have hl:c.opened.getLast?=some c.opened[k]:=by rw[List.getLast?_eq_getElem?,show c.opened.length - 1=k by omega];exact hx
  have hm:=hO _ (List.mem_of_getElem? hx);generalize c.opened[k]=m at hx hl hm;have hp:c.parts[m]?=some c.parts[m]:=List.getElem?_eq_getElem hm;have HV:Hid (c.left=(7,c.parts[m].pos)):=by show _=_;unfold Pl.Ct.left Pl.qi1;rw[hl];simp only;rw[hp]
  generalize c.parts[m]=p at hp HV;obtain⟨go,capo,ha,hc,Ha⟩:=qaj h.opened (by omega);obtain⟨gp,capp,hb,Hc,Hb⟩:=qaj h.parts (by omega);have q4:∀o,(w.alloc o).cell? ⟨go,k,none⟩=some (.int .i64 m):=fun o=>qft (ha▸(h.alloc o).opened) k _ (qkl _ _ _ hx);have q3:∀o,(w.alloc o).cell? ⟨gp,m*4+1,none⟩=some (.int .i64 p.pos):=fun o=>qft (hb▸(h.alloc o).parts) _ _ (qfr _ _ _ hp 1 _ rfl);rw[ha,hk]at b4;rw[hb]at b3;rw[HV.out];have d1:(m:Int)<(c.parts.length:Int):=by omega
  generalize c.parts.length=N at b3 d1;have w1:IntKind.i64.wrap (k:Int)=k:=qh5 k (by omega);clear HV h hO hn hc Ha Hc Hb ha hb hx hl hp hm h0 hk;unfold qgu;go_enter Tryz.func148,Tryz.ntmps148
  go_wp2_with fail
  go_region
  go_wp2_with fail
  refine bodyPost_ret (qbk Tryz.results148 _ _ w.heap.size _ _ rfl (qaa (heap_alloc_new w _)) Tryz.underlying169 rfl (by kernel_rfl)) rfl ?_;exact⟨rfl,(ba _).drew⟩
theorem qoa{f:Func}{a:Act}{w0 w:World}{p:Tmp}{r:Pl.Tg}(hf:f.results=#[.cell p 274])(hp:a.tmps.getD p undef=.pointer (some ⟨w0.heap.size,0,none⟩))(hd:a.defers=[])(hw:w.heap[w0.heap.size]?=some (.cells (qlv r) 274 (0,0)))(hb:Below w0.heap.size w0 w) :
  bodyPost Tryz.prog f (fun e w'=>e=.returned (qea r)∧Below w0.heap.size w0 w') .ret a w:=
 bodyPost_ret (qbk hf _ _ w0.heap.size _ _ hp (qaa hw) Tryz.underlying274 rfl (by kernel_rfl)) hd ⟨rfl,hb⟩
theorem qun{w:World}{g:Nat}{t:TypeId}{u0 u1 u2 u3 u4:Value}(h:w.heap[g]?=some (.cells #[u0,u1,u2,u3,u4] t (0,0)))(v0 v1 v2 v3 v4:Value) :
  (((((w.setCell ⟨g,0,none⟩ v0).setCell ⟨g,1,none⟩ v1).setCell ⟨g,2,none⟩ v2).setCell ⟨g,3,none⟩ v3).setCell ⟨g,4,none⟩ v4).heap[g]?=some (.cells #[v0,v1,v2,v3,v4] t (0,0)):=
 heap_setCell_same _ _ _ _ _ _ (heap_setCell_same _ _ _ _ _ _ (heap_setCell_same _ _ _ _ _ _ (heap_setCell_same _ _ _ _ _ _ (heap_setCell_same _ _ _ _ _ _ h))))
theorem qmq{B:Nat}{a w:World}{g:Nat}(h:Below B a w)(hg:B≤g)(v0 v1 v2 v3 v4:Value):Below B a (((((w.setCell ⟨g,0,none⟩ v0).setCell ⟨g,1,none⟩ v1).setCell ⟨g,2,none⟩ v2).setCell ⟨g,3,none⟩ v3).setCell ⟨g,4,none⟩ v4):=
 ((((h.setCell (p:=⟨g,0,none⟩) hg v0).setCell (p:=⟨g,1,none⟩) hg v1).setCell (p:=⟨g,2,none⟩) hg v2).setCell (p:=⟨g,3,none⟩) hg v3).setCell (p:=⟨g,4,none⟩) hg v4
structure TgSlot(w0 w:World):Prop where
 blk:w.heap[w0.heap.size]?=some (.cells #[.int .i64 0,.int .i64 0,.string ⟨#[]⟩,.string ⟨#[]⟩,.string ⟨#[]⟩] 274 (0,0))
 below:Below w0.heap.size w0 w
theorem qd3(w0:World):TgSlot w0 (w0.alloc (.cells #[.int .i64 0,.int .i64 0,.string ⟨#[]⟩,.string ⟨#[]⟩,.string ⟨#[]⟩] 274)):=⟨heap_alloc_new w0 _,ba _⟩
theorem TgSlot.next{w0 w w':World}(h:TgSlot w0 w)(hb:Below w.heap.size w w'):TgSlot w0 w':=
 ⟨(hb.block _ (lta h.blk)).trans h.blk,h.below.trans (hb.mono h.below.size)⟩
theorem TgSlot.facts{w0 w:World}(h:TgSlot w0 w):(w.cell? ⟨w0.heap.size,0,none⟩=some (.int .i64 0)∧w.cell? ⟨w0.heap.size,1,none⟩=some (.int .i64 0)∧w.cell? ⟨w0.heap.size,2,none⟩=some (.string ⟨#[]⟩)∧w.cell? ⟨w0.heap.size,3,none⟩=some (.string ⟨#[]⟩)∧w.cell? ⟨w0.heap.size,4,none⟩=some (.string ⟨#[]⟩)) ∧
  w.frozen? ⟨w0.heap.size,0,none⟩=false∧w.frozen? ⟨w0.heap.size,1,none⟩=false∧w.frozen? ⟨w0.heap.size,2,none⟩=false∧w.frozen? ⟨w0.heap.size,3,none⟩=false∧w.frozen? ⟨w0.heap.size,4,none⟩=false:=by
 have c:=qaa h.blk;refine⟨⟨c 0 _ rfl,c 1 _ rfl,c 2 _ rfl,c 3 _ rfl,c 4 _ rfl⟩,?_⟩;simp[World.frozen?,h.blk]
theorem qgh{f:Func}{a:Act}{w0 w:World}{p:Tmp}(r:Pl.Tg)(hf:f.results=#[.cell p 274])(hp:a.tmps.getD p undef=.pointer (some ⟨w0.heap.size,0,none⟩))(hd:a.defers=[])(hs:TgSlot w0 w){v0 v1 v2 v3 v4:Value}(hv:#[v0,v1,v2,v3,v4]=qlv r) :
  bodyPost Tryz.prog f (fun e w'=>e=.returned (qea r)∧Below w0.heap.size w0 w') .ret a (((((w.setCell ⟨w0.heap.size,0,none⟩ v0).setCell ⟨w0.heap.size,1,none⟩ v1).setCell ⟨w0.heap.size,2,none⟩ v2).setCell ⟨w0.heap.size,3,none⟩ v3).setCell ⟨w0.heap.size,4,none⟩ v4):=
 qoa (r:=r) hf hp hd (by rw[qun hs.blk,hv]) (qmq hs.below (Nat.le_refl _) _ _ _ _ _)
theorem qob(k:Nat)(s:ByteArray)(w:World)(hs:s.size≤100000)(hm:qay w) :
  Calls Tryz.prog 195 #[.int .i64 k,.string s] w fun e w'=>e=.returned (qea (Pl.qb9 k s.data.toList))∧Below w.heap.size w w':=by
 have HB:=hd (fun o=>q02 s (w.alloc o) hs (hm.below (ba _)));clear hm;by_cases h6:k=6
 ·subst h6
  clear HB;by_cases hi:Pl.qa6 s.data.toList=true
  ·have HV:Hid (Pl.qb9 6 s.data.toList=⟨6,0,s.data.toList,[],[]⟩):=by show _=_;unfold Pl.qb9;simp[hi]
   rw[HV.out];clear HV;go_enter Tryz.func195,Tryz.ntmps195
   go_wp2_with (go_at_call 72;refine(qc5 s _).mono ?_;rintro e w' ⟨rfl,rfl⟩;rw[hi])
   exact qoa (r:=⟨6,0,s.data.toList,[],[]⟩) Tryz.results195 rfl rfl (heap_alloc_new w _) (ba _)
  ·have hi:=Bool.eq_false_iff.2 hi
   have HV:Hid (Pl.qb9 6 s.data.toList=⟨6,3,[],[],[]⟩):=by show _=_;unfold Pl.qb9;simp[hi]
   rw[HV.out];clear HV;go_enter Tryz.func195,Tryz.ntmps195
   go_wp2_with (go_at_call 72;refine(qc5 s _).mono ?_;rintro e w' ⟨rfl,rfl⟩;rw[hi])
   exact qoa (r:=⟨6,3,[],[],[]⟩) Tryz.results195 rfl rfl (heap_alloc_new w _) (ba _)
 ·have c6:¬(k:Int)=6:=by omega
  by_cases hi:Pl.isNm s.data.toList=true
  ·have HV:Hid (Pl.qb9 k s.data.toList=⟨k,0,s.data.toList,[],[]⟩):=by show _=_;unfold Pl.qb9;simp[hi,h6]
   rw[HV.out];clear HV;rw[hi]at HB;clear h6;go_enter Tryz.func195,Tryz.ntmps195
   go_wp2_with (go_at_call 230;refine Calls.mono (HB.out _) ?_;rintro e w' ⟨rfl,hb⟩;have hS:=(qd3 w).next hb;obtain⟨⟨k0,k1,k2,k3,k4⟩,f0,f1,f2,f3,f4⟩:=hS.facts;have HS:=hd hS;clear hb hS)
   exact qgh (w0:=w) ⟨k,0,s.data.toList,[],[]⟩ Tryz.results195 rfl rfl HS.out rfl
  ·have hi:=Bool.eq_false_iff.2 hi
   have HV:Hid (Pl.qb9 k s.data.toList=⟨k,3,[],[],[]⟩):=by show _=_;unfold Pl.qb9;simp[hi,h6]
   rw[HV.out];clear HV;rw[hi]at HB;clear h6;go_enter Tryz.func195,Tryz.ntmps195
   go_wp2_with (go_at_call 230;refine Calls.mono (HB.out _) ?_;rintro e w' ⟨rfl,hb⟩;have hS:=(qd3 w).next hb;obtain⟨⟨k0,k1,k2,k3,k4⟩,f0,f1,f2,f3,f4⟩:=hS.facts;have HS:=hd hS;clear hb hS)
   exact qgh (w0:=w) ⟨k,3,[],[],[]⟩ Tryz.results195 rfl rfl HS.out rfl
theorem CtAt.two{w:World}{B g:Nat}{t:List UInt8}{c:Pl.Ct}{vp vo:Value}(h:CtAt w B g t c vp vo)(j:Nat)(v:Value)(hv:[bs t,bs c.op,bs c.cl,vp,vo][j]?=some v):∀o o',((w.alloc o).alloc o').cell? ⟨g,j,none⟩=some v:=fun o o'=>((h.alloc o).alloc o').cell j v hv
theorem CtAt.two'{w:World}{B g:Nat}{t:List UInt8}{c:Pl.Ct}{vp vo:Value}(h:CtAt w B g t c vp vo)(j:Nat):∀o o',((w.alloc o).alloc o').frozen? ⟨g,j,none⟩=false:=fun o o'=>((h.alloc o).alloc o').thaw j
theorem CtAt.to{w w':World}{B g:Nat}{t:List UInt8}{c:Pl.Ct}{vp vo:Value}(h:CtAt w B g t c vp vo)(hb:Below w.heap.size w w'):CtTo w w' B g t c:=⟨⟨_,_,h.below hb⟩,Cur.of_below hb (Nat.le_trans h.le (Nat.le_of_lt h.lt))⟩
theorem q2e(w:World)(B g:Nat)(t:List UInt8)(c:Pl.Ct)(vp vo:Value)(h:CtAt w B g t c vp vo)(one:Pl.Tg)(a:Nat)(hs:one.slip≠0) :
  Calls Tryz.prog 152 #[.pointer (some ⟨g,0,none⟩),qea one,.int .i64 a] w fun e w'=>e=.returned (.int .i64 (c.take one a).1)∧CtTo w w' B g t (c.take one a).2:=by
 have HV:Hid (c.take one a=(one.slip,c)):=by show _=_;unfold Pl.Ct.take;rw[if_pos hs]
 rw[HV.out];have H:=hd h;have c1:¬(one.slip:Int)=0:=by omega
 clear HV h hs;unfold qea bs;go_enter Tryz.func152,Tryz.ntmps152
 go_wp2_with fail
 go_ret
 exact⟨rfl,H.out.to (ba _)⟩
theorem qtm(w:World)(B g:Nat)(t:List UInt8)(c:Pl.Ct)(vp vo:Value)(h:CtAt w B g t c vp vo)(n op cl:List UInt8)(a:Nat) :
  Calls Tryz.prog 152 #[.pointer (some ⟨g,0,none⟩),qea ⟨7,0,n,op,cl⟩,.int .i64 a] w fun e w'=>e=.returned (.int .i64 (0:Nat))∧CtTo w w' B g t c:=by
 have H:=hd h;clear h;unfold qea bs;go_enter Tryz.func152,Tryz.ntmps152
 go_wp2_with fail
 go_ret
 exact⟨rfl,H.out.to ((ba _).alloc (by simp) _)⟩
theorem qtk(w:World)(B g:Nat)(t:List UInt8)(c:Pl.Ct)(vp vo:Value)(h:CtAt w B g t c vp vo)(k:Nat)(n op cl:List UInt8)(a:Nat)(hk:k=2∨k=6)(hn:c.parts.length≤4000) :
  Calls Tryz.prog 152 #[.pointer (some ⟨g,0,none⟩),qea ⟨k,0,n,op,cl⟩,.int .i64 a] w fun e w'=>e=.returned (.int .i64 (0:Nat))∧CtTo w w' B g t { c with parts:=c.parts++[⟨k,a,n,0⟩] }:=by
 obtain⟨i0,hi,hb,Hb,hc⟩:=info_parts qlh;have b3:=h.two 3 _ rfl;have f3:=h.two' 3;have b4:∀o o' o'',(((w.alloc o).alloc o').alloc o'').cell? ⟨g,3,none⟩=some vp:=fun o o' o''=>(((h.alloc o).alloc o').alloc o'').cell 3 _ rfl;have Hc:B≤w.heap.size:=by have:=h.lt;have:=h.le;omega
 have H:=hd h;clear h;unfold qea bs;rcases hk with rfl | rfl
 all_goals
  go_enter Tryz.func152,Tryz.ntmps152
  go_wp2_with fail
  go_region_law (refine qbr rfl (.tmp 119) (.tmp 121) 168 rfl B 229 i0 (.agg #[.int .i64 0,.int .i64 0,.string ⟨#[]⟩,.int .i64 0]) 4 40 Tryz.underlying168 hi hb Hb hc qjq (by decide) vp c.parts.length _ (by simp[Act.eval]) (World.ownsRow.alloc (World.ownsRow.alloc (World.ownsRow.alloc H.out.parts _) _) _) ⟨_,0,none⟩ 1 1 [_,.int .i64 a,.string ⟨n.toArray⟩,.int .i64 0] (by simp[Act.eval]) rfl (qc3 _ _ _) (by simp[Value.oneCell']) (by unfold maxLen;omega) (by omega) (by simp;omega) ?_;intro v' w' ha Ha he;obtain⟨g',cap',rfl,_,_⟩:=qaj ha (by omega);obtain⟨q3,r3⟩:=H.out.ahead (((ba _).alloc (by simp) _).alloc (by simp<;>omega) _).drew (.inl rfl) Ha 3 _ rfl)
  all_goals
   go_wp2_with fail
   go_ret
   exact⟨rfl,H.out.moreTo (((ba _).alloc (by simp) _).alloc (by simp<;>omega) _).drew ⟨_,a,n,0⟩ ha Ha⟩
theorem qtl(w:World)(B g:Nat)(t:List UInt8)(c:Pl.Ct)(vp vo:Value)(h:CtAt w B g t c vp vo)(k:Nat)(n op cl:List UInt8)(a:Nat)(hk:k=3∨k=4)(h6:c.opened.length=6) :
  Calls Tryz.prog 152 #[.pointer (some ⟨g,0,none⟩),qea ⟨k,0,n,op,cl⟩,.int .i64 a] w fun e w'=>e=.returned (.int .i64 (8:Nat))∧CtTo w w' B g t c:=by
 obtain⟨ao,cap,ha⟩:=qfe h.opened;have b4:=h.two 4 _ rfl;rw[ha,h6]at b4;have H:=hd h;clear h h6 ha;unfold qea bs;rcases hk with rfl | rfl
 all_goals
  go_enter Tryz.func152,Tryz.ntmps152
  go_wp2_with fail
  go_ret
  exact⟨rfl,H.out.to ((ba _).alloc (by simp) _)⟩
theorem qzz(w:World)(B g:Nat)(t:List UInt8)(c:Pl.Ct)(vp vo:Value)(h:CtAt w B g t c vp vo)(n op cl:List UInt8)(a:Nat)(h6:c.opened.length=0) :
  Calls Tryz.prog 152 #[.pointer (some ⟨g,0,none⟩),qea ⟨5,0,n,op,cl⟩,.int .i64 a] w fun e w'=>e=.returned (.int .i64 (5:Nat))∧CtTo w w' B g t c:=by
 obtain⟨ao,cap,ha⟩:=qfe h.opened;have b4:=h.two 4 _ rfl;rw[ha,h6]at b4;have H:=hd h;clear h h6 ha;unfold qea bs;go_enter Tryz.func152,Tryz.ntmps152
 go_wp2_with fail
 go_ret
 exact⟨rfl,H.out.to ((ba _).alloc (by simp) _)⟩
theorem CtAt.delims{w:World}{B g:Nat}{t:List UInt8}{c:Pl.Ct}{vp vo:Value}(h:CtAt w B g t c vp vo)(op cl:List UInt8) :
  CtTo w ((w.setCell ⟨g,1,none⟩ (bs op)).setCell ⟨g,2,none⟩ (bs cl)) B g t { c with op:=op,cl:=cl }:=by
 have ha:∀k,k≠g→((w.setCell ⟨g,1,none⟩ (bs op)).setCell ⟨g,2,none⟩ (bs cl)).heap[k]?=w.heap[k]?:=fun k hk=>(Below.heap_setCell _ _ _ _ hk).trans (Below.heap_setCell _ _ _ _ hk);refine⟨⟨vp,vo,?_,?_,?_,h.le⟩,?_,fun k cs ty fz hk h1 h2 h3=>ha k h1⟩
 ·rw[heap_setCell_same _ _ _ _ _ _ (heap_setCell_same _ _ _ _ _ _ h.blk)];rfl
 ·refine qac h.parts fun k hk=>ha k ?_
  obtain⟨cur,hc⟩:=qad h.parts k hk;exact fun e=>qae h.blk hc qfp e.symm
 ·refine qac h.opened fun k hk=>ha k ?_
  obtain⟨cur,hc⟩:=qad h.opened k hk;exact fun e=>qae h.blk hc qhq e.symm
 ·exact((Below.refl _ _).setCell (p:=⟨g,1,none⟩) h.le _).setCell (p:=⟨g,2,none⟩) h.le _
theorem CtTo.after{w w0 w':World}{B g:Nat}{t:List UInt8}{c:Pl.Ct}(hc:Cur B g w w0)(h:CtTo w0 w' B g t c):CtTo w w' B g t c:=⟨h.ex,hc.trans h.cur⟩
theorem CtAt.pushAt{w w0 w':World}{B g:Nat}{t:List UInt8}{c:Pl.Ct}{vp vo vo':Value}(h:CtAt w B g t c vp vo)(Ha:Below w.heap.size w w0)(n:Nat)(ha:w'.ownsRow B 3 1 vo' (c.opened.length+1) (qby c.opened++[.int .i64 n]))(hb:w0.grownBy w' vo.ownBlock) :
  CtAt (w'.setCell ⟨g,4,none⟩ vo') B g t { c with opened:=c.opened++[n] } vp vo'∧Cur B g w (w'.setCell ⟨g,4,none⟩ vo')∧∀k x,w0.heap[k]?=some x→w.heap.size≤k→(w'.setCell ⟨g,4,none⟩ vo').heap[k]?=some x:=by
 obtain⟨h1,h2⟩:=(h.below Ha).push n ha hb;refine⟨h1,(Cur.of_below Ha (Nat.le_trans h.le (Nat.le_of_lt h.lt))).trans h2,fun k x hk Hb=>?_⟩;refine(Below.heap_setCell _ _ _ _ (by have:=h.lt;simp only;omega)).trans ((hb.block k (Array.getElem?_eq_some_iff.1 hk).1 (fun e=>?_)).trans hk);have:=(h.opened.lt k e.symm).2;omega
theorem qv8(w:World)(B g:Nat)(t:List UInt8)(c:Pl.Ct)(vp vo:Value)(h:CtAt w B g t c vp vo)(n op cl:List UInt8)(a:Nat) :
  Calls Tryz.prog 152 #[.pointer (some ⟨g,0,none⟩),qea ⟨8,0,n,op,cl⟩,.int .i64 a] w fun e w'=>e=.returned (.int .i64 (0:Nat))∧CtTo w w' B g t { c with op:=op,cl:=cl }:=by
 have b1:=h.two 1 _ rfl;have b2:=h.two 2 _ rfl;have f1:=h.two' 1;have f2:=h.two' 2;have ha:B≤w.heap.size:=by have:=h.lt;have:=h.le;omega
 have H:=hd h;clear h;unfold qea bs at *;go_enter Tryz.func152,Tryz.ntmps152
 go_wp2_with fail
 go_region
 all_goals
  go_wp2_with fail
  go_ret
  have hb:=(((Below.refl w.heap.size w).alloc (Nat.le_refl _) (.cells #[.int .i64 8,.int .i64 0,.string ⟨n.toArray⟩,.string ⟨op.toArray⟩,.string ⟨cl.toArray⟩] 274)).alloc (by simp) (.cells #[.int .i64 8,.int .i64 a,.string ⟨n.toArray⟩,.int .i64 0] 229)).drew
  first
   | exact⟨rfl,CtTo.after (Cur.of_below hb ha) (CtAt.delims (CtAt.below H.out hb) op cl)⟩
   | exact⟨rfl,CtTo.after (Cur.of_below hb ha) (CtAt.delims' (CtAt.below H.out hb) op cl)⟩
theorem q2c(w:World)(o:Obj)(g:Nat)(h:w.heap.size=g):(w.alloc o).heap[g]?=some o:=by
 subst h;exact heap_alloc_new w o
theorem CtAt.mated{w:World}{B g gp N capp:Nat}{t:List UInt8}{c:Pl.Ct}{vo:Value}(h:CtAt w B g t c (.slice (some ⟨gp,0,none⟩) N capp) vo)(m n:Nat)(hm:m<c.parts.length) :
  CtAt (w.setCell ⟨gp,m*4+3,none⟩ (.int .i64 n)) B g t { c with parts:=Pl.qbc c.parts m n } (.slice (some ⟨gp,0,none⟩) N capp) vo∧Cur B g w (w.setCell ⟨gp,m*4+3,none⟩ (.int .i64 n)):=by
 have ha:∀k,k≠gp→(w.setCell ⟨gp,m*4+3,none⟩ (.int .i64 n)).heap[k]?=w.heap[k]?:=fun k hk=>Below.heap_setCell _ _ _ _ hk;obtain⟨cur,hc⟩:=qad h.parts gp rfl;have Ha:=(h.parts.lt gp rfl).1;refine⟨⟨(ha g (qae h.blk hc qfp)).trans h.blk,?_,?_,h.le⟩,?_,?_⟩
 ·have hs:(Pl.qbc c.parts m n).length=c.parts.length:=Pl.qib _ _ _
  have hN:N=c.parts.length:=by
   rcases h.parts.2 with ⟨h0,_⟩ | ⟨g',cap',cur',hv,_⟩
   ·cases h0
   ·injection hv
  subst hN;show World.ownsRow _ _ _ _ _ (Pl.qbc c.parts m n).length (qb0 (Pl.qbc c.parts m n));rw[hs,←qmv _ _ _ hm];exact(h.parts.stored (m*4+3) (.int .i64 n)).1
 ·refine qac h.opened fun k hk=>ha k ?_
  obtain⟨cur',hb⟩:=qad h.opened k hk;exact fun e=>qae hc hb qkb e.symm
 ·exact(Below.refl _ _).setCell (p:=⟨gp,m*4+3,none⟩) Ha _
 ·intro k cs ty fz hk h1 h2 h3
  exact ha k (qae hk hc h2)
theorem CtAt.popped{w:World}{B g go capo:Nat}{t:List UInt8}{c:Pl.Ct}{vp:Value}{M:Nat}(h:CtAt w B g t c vp (.slice (some ⟨go,0,none⟩) M capo))(k:Nat)(hk:c.opened.length=k+1) :
  CtAt (w.setCell ⟨g,4,none⟩ (.slice (some ⟨go,0,none⟩) k capo)) B g t { c with opened:=c.opened.dropLast } vp (.slice (some ⟨go,0,none⟩) k capo)∧Cur B g w (w.setCell ⟨g,4,none⟩ (.slice (some ⟨go,0,none⟩) k capo)):=by
 have ha:∀k',k'≠g→(w.setCell ⟨g,4,none⟩ (.slice (some ⟨go,0,none⟩) k capo)).heap[k']?=w.heap[k']?:=fun k' Ha=>Below.heap_setCell _ _ _ _ Ha;have hM:M=c.opened.length:=by
  rcases h.opened.2 with ⟨h0,_⟩ | ⟨g',cap',cur',hv,_⟩
  ·cases h0
  ·injection hv
 subst hM;have ht:=qi3 h.opened k (by omega);have e1:(qby c.opened).take (k*1)=qby c.opened.dropLast:=by
  rw[Nat.mul_one,List.dropLast_eq_take,show c.opened.length - 1=k by omega];simp[qby]
 have e2:c.opened.dropLast.length=k:=by simp;omega
 rw[e1]at ht;refine⟨⟨?_,?_,?_,h.le⟩,?_,fun k' cs ty fz Ha h1 _ _=>ha k' h1⟩
 ·rw[heap_setCell_same _ _ _ _ _ _ h.blk];rfl
 ·refine qac h.parts fun k' Ha=>ha k' ?_
  obtain⟨cur',hb⟩:=qad h.parts k' Ha;exact fun e=>qae h.blk hb qfp e.symm
 ·show World.ownsRow _ _ _ _ _ c.opened.dropLast.length (qby c.opened.dropLast)
  rw[e2];refine qac ht fun k' Ha=>ha k' ?_;obtain⟨cur',hb⟩:=qad ht k' Ha;exact fun e=>qae h.blk hb qhq e.symm
 ·exact(Below.refl _ _).setCell (p:=⟨g,4,none⟩) h.le _
theorem qvd{a b:List UInt8}(h:a≠b):((⟨a.toArray⟩:ByteArray).toList==(⟨b.toArray⟩:ByteArray).toList)=false:=by
 rw[Lib.toList_data,Lib.toList_data];exact beq_eq_false_iff_ne.2 (by simpa using h)
theorem qry(w:World)(B g:Nat)(t:List UInt8)(c:Pl.Ct)(vp vo:Value)(h:CtAt w B g t c vp vo)(n op cl:List UInt8)(a k m:Nat)(hk:c.opened.length=k+1)(hm:c.opened[k]?=some m)(p:Pl.Pt)(hp:c.parts[m]?=some p)(ha:p.text≠n)(h6:c.opened.length≤6) :
  Calls Tryz.prog 152 #[.pointer (some ⟨g,0,none⟩),qea ⟨5,0,n,op,cl⟩,.int .i64 a] w fun e w'=>e=.returned (.int .i64 (6:Nat))∧CtTo w w' B g t c:=by
 have Ha:m<c.parts.length:=(List.getElem?_eq_some_iff.1 hp).1;obtain⟨go,capo,hb,_,_⟩:=qaj h.opened (by omega);obtain⟨gp,capp,Hb,_,_⟩:=qaj h.parts (by omega);subst hb Hb;have b3:=h.two 3 _ rfl;have b4:=h.two 4 _ rfl;have q4:∀o o',((w.alloc o).alloc o').cell? ⟨go,k,none⟩=some (.int .i64 m):=fun o o'=>qft ((h.alloc o).alloc o').opened k _ (qkl _ _ _ hm);have q2:∀o o',((w.alloc o).alloc o').cell? ⟨gp,m*4+2,none⟩=some (.string ⟨p.text.toArray⟩):=fun o o'=>qft ((h.alloc o).alloc o').parts _ _ (qfr _ _ _ hp 2 _ rfl);have w1:IntKind.i64.wrap (k:Int)=k:=qh5 k (by omega);have d1:(m:Int)<(c.parts.length:Int):=by omega
 have e1:=qvd ha;have H:=hd h;rw[hk]at b4;clear h hp hm;unfold qea bs;generalize (⟨p.text.toArray⟩:ByteArray)=X at q2 e1;generalize (⟨n.toArray⟩:ByteArray)=Y at e1 ⊢;generalize hN:c.parts.length=N at b3 d1;clear hN Ha h6 ha;go_enter Tryz.func152,Tryz.ntmps152
 go_wp2_with fail
 go_region
 all_goals
  go_wp2_with fail
  go_ret
  exact⟨rfl,H.out.to ((ba _).alloc (by simp) _).drew⟩
theorem q5b(w:World)(B g:Nat)(t:List UInt8)(c:Pl.Ct)(vp vo:Value)(h:CtAt w B g t c vp vo)(n op cl:List UInt8)(a k m:Nat)(hk:c.opened.length=k+1)(hm:c.opened[k]?=some m)(p:Pl.Pt)(hp:c.parts[m]?=some p)(Hc:p.text=n)(h6:c.opened.length≤6)(hn:c.parts.length≤4000) :
  Calls Tryz.prog 152 #[.pointer (some ⟨g,0,none⟩),qea ⟨5,0,n,op,cl⟩,.int .i64 a] w fun e w'=>e=.returned (.int .i64 (0:Nat))∧CtTo w w' B g t { c with parts:=Pl.qbc c.parts m c.parts.length++[⟨5,a,n,m⟩],opened:=c.opened.dropLast }:=by
 obtain⟨i0,hi,he,He,hf⟩:=info_parts qlh;have Hf:m<c.parts.length:=(List.getElem?_eq_some_iff.1 hp).1;obtain⟨go,capo,hg,_,_⟩:=qaj h.opened (by omega);obtain⟨gp,capp,Hg,_,_⟩:=qaj h.parts (by omega);subst hg Hg Hc;have b3:=h.two 3 _ rfl;have b4:=h.two 4 _ rfl;have q4:∀o o',((w.alloc o).alloc o').cell? ⟨go,k,none⟩=some (.int .i64 m):=fun o o'=>qft ((h.alloc o).alloc o').opened k _ (qkl _ _ _ hm);have q2:∀o o',((w.alloc o).alloc o').cell? ⟨gp,m*4+2,none⟩=some (.string ⟨p.text.toArray⟩):=fun o o'=>qft ((h.alloc o).alloc o').parts _ _ (qfr _ _ _ hp 2 _ rfl);have q3:∀o o',((w.alloc o).alloc o').cell? ⟨gp,m*4+3,none⟩=some (.int .i64 p.mate):=fun o o'=>qft ((h.alloc o).alloc o').parts _ _ (qfr _ _ _ hp 3 _ rfl);have fq3:∀o o',((w.alloc o).alloc o').frozen? ⟨gp,m*4+3,none⟩=false:=fun o o'=>World.ownsRow.frozenAt ((h.alloc o).alloc o').parts _;have w1:IntKind.i64.wrap (k:Int)=k:=qh5 k (by omega);have d1:(m:Int)<(c.parts.length:Int):=by omega
 have hb:B≤w.heap.size:=by have:=h.lt;have:=h.le;omega
 have Hj:g<w.heap.size:=h.lt;have Hi:k+1≤capo:=by
  rcases h.opened.2 with ⟨h0,_⟩ | ⟨g',cap',cur',hv,_,_,hc,_⟩
  ·cases h0
  ·injection hv with _ _ e;omega
 obtain⟨h1,C1⟩:=h.mated m c.parts.length Hf;obtain⟨h3,C3⟩:=h1.popped k hk;have s4:=h1.two 4 _ rfl;have fs4:=h1.two' 4;have s3:=h3.two 3 _ rfl;have fs3:=h3.two' 3;have s3':∀o o' o'',(((((w.setCell ⟨gp,m*4+3,none⟩ (.int .i64 c.parts.length)).setCell ⟨g,4,none⟩ (.slice (some ⟨go,0,none⟩) k capo)).alloc o).alloc o').alloc o'').cell? ⟨g,3,none⟩=some (.slice (some ⟨gp,0,none⟩) c.parts.length capp):=fun o o' o''=>(((h3.alloc o).alloc o').alloc o'').cell 3 _ rfl;have hl:(Pl.qbc c.parts m c.parts.length).length=c.parts.length:=Pl.qib _ _ _;have Hk:B≤((w.setCell ⟨gp,m*4+3,none⟩ (.int .i64 c.parts.length)).setCell ⟨g,4,none⟩ (.slice (some ⟨go,0,none⟩) k capo)).heap.size:=by simp;exact hb
 have H3:=hd h3;have HR:Hid (World.ownsRow ((w.setCell ⟨gp,m*4+3,none⟩ (.int .i64 c.parts.length)).setCell ⟨g,4,none⟩ (.slice (some ⟨go,0,none⟩) k capo)) B 229 4 (.slice (some ⟨gp,0,none⟩) c.parts.length capp) c.parts.length (qb0 (Pl.qbc c.parts m c.parts.length))):=by
  have:=h3.parts;change World.ownsRow _ _ _ _ _ (Pl.qbc c.parts m c.parts.length).length (qb0 (Pl.qbc c.parts m c.parts.length))at this;rw[hl]at this;exact this
 have HC:=hd (C1.trans C3);rw[hk]at b4;have s4':∀o o',(((w.setCell ⟨gp,m*4+3,none⟩ (.int .i64 c.parts.length)).alloc o).alloc o').cell? ⟨g,4,none⟩=some (.slice (some ⟨go,0,none⟩) (k+1) capo):=fun o o'=>by rw[←hk];exact s4 o o'
 have d2:(k:Int)≤(capo:Int):=by omega
 clear h hp hm hk h1 h3 C1 C3 s4;unfold qea bs;go_enter Tryz.func152,Tryz.ntmps152
 go_wp2_with fail
 go_region
 all_goals
  go_wp2_with fail
  go_region
  all_goals
   go_wp2_with fail
   go_region_law (refine qbr rfl (.tmp 119) (.tmp 121) 168 rfl B 229 i0 (.agg #[.int .i64 0,.int .i64 0,.string ⟨#[]⟩,.int .i64 0]) 4 40 Tryz.underlying168 hi he He hf qjq (by decide) (.slice (some ⟨gp,0,none⟩) c.parts.length capp) c.parts.length _ (by simp[Act.eval]) (World.ownsRow.alloc (World.ownsRow.alloc (World.ownsRow.alloc HR.out _) _) _) ⟨_,0,none⟩ 1 1 [.int .i64 5,.int .i64 a,.string ⟨p.text.toArray⟩,.int .i64 m] (by simp[Act.eval]) rfl (qc3 _ _ _) (by simp[Value.oneCell']) (by unfold maxLen;omega) (by omega) (by simp;omega) ?_;intro v' w' ha Hb hj;obtain⟨g',cap',rfl,_,_⟩:=qaj ha (by omega);obtain⟨q5,r5⟩:=CtAt.ahead H3.out (((ba _).alloc (by simp) _).alloc (by simp<;>omega) _).drew.drew.drew (.inl rfl) Hb 3 _ rfl)
   all_goals
    go_wp2_with fail
    go_ret
    have Ha:World.ownsRow w' B 229 4 (.slice (some ⟨g',0,none⟩) (c.parts.length+1) cap') ((Pl.qbc c.parts m c.parts.length).length+1) (qb0 (Pl.qbc c.parts m c.parts.length)++qdh ⟨5,a,p.text,m⟩):=by rw[hl];exact ha
    exact⟨rfl,CtTo.after HC.out (CtAt.moreTo H3.out (((ba _).alloc (by simp) _).alloc (by simp<;>omega) _).drew.drew.drew ⟨5,a,p.text,m⟩ Ha Hb)⟩
end Go.Proofs.YtfkhljmiehdgmaaGreatDoor
namespace Go.Proofs.YtfkhljmiehdgmaaGreatDoor
open Go.RowKit Go.Maps Go.MapKept Go.ChangeMaps
def qe8(w:World)(b:Nat)(L:List (Value×Value)):Prop:=∃es clock,w.heap[b]?=some (.map es clock)∧es.toList.map (fun e=>(e.key,e.val))=L
structure KeysOk(P:Program)(K:TypeId)(L:List (Value×Value)):Prop where
 key:∀p∈L,∃l,keyOf P K p.1=some l
 one:∀(i j:Nat) (p q:Value×Value),L[i]?=some p→L[j]?=some q→p.1=q.1→i=j
theorem qe8.lt{w:World}{b:Nat}{L:List (Value×Value)}(h:qe8 w b L):b<w.heap.size:=by
 obtain⟨es,c,hb,_⟩:=h;rcases Nat.lt_or_ge b w.heap.size with q | q
 ·exact q
 ·rw[Array.getElem?_eq_none q]at hb;cases hb
theorem qe8.heap{w w':World}{b:Nat}{L:List (Value×Value)}(h:qe8 w b L)(hw:w'.heap[b]?=w.heap[b]?):qe8 w' b L:=by
 obtain⟨es,c,hb,hl⟩:=h;exact⟨es,c,hw.trans hb,hl⟩
theorem qe8.kept{w w':World}{b:Nat}{L:List (Value×Value)}{row:Option Nat}(h:qe8 w b L)(hg:w.grownBy w' row)(ha:some b≠row):qe8 w' b L:=h.heap (hg.block b h.lt ha)
section
variable {P:Program}{K t e:TypeId}{w:World}{b:Nat}{L:List (Value×Value)}
theorem qsf(law:Keyed P K)(h:qe8 w b L)(hk:KeysOk P K L){key:Value}{kl:Lit}(ha:keyOf P K key=some kl) :
  ∃es clock,w.heap[b]?=some (.map es clock)∧es.toList.map (fun e=>(e.key,e.val))=L∧(∀W:World,
    (((Instr.findKey K key es.toList).run P W=.ok none W∧∀p∈L,p.1≠key) ∨
    ∃(j:Nat) (v:Value),(Instr.findKey K key es.toList).run P W=.ok (some (j,v)) W∧L[j]?=some (key,v)∧es[j]?.map (·.key)=some key)):=by
 obtain⟨es,clock,hb,hl⟩:=h;refine⟨es,clock,hb,hl,fun W=>?_⟩;have Ha:∀x∈es.toList,∃l,keyOf P K x.key=some l:=fun x hx=>hk.key (x.key,x.val) (by rw[←hl];exact List.mem_map.2 ⟨x,hx,rfl⟩);rcases law.find W ha es.toList Ha with ⟨h1,h2⟩ | ⟨j,e0,h1,h2,h3⟩
 ·refine .inl ⟨h1,fun p hp=>?_⟩
  rw[←hl]at hp;obtain⟨x,hx,rfl⟩:=List.mem_map.1 hp;exact h2 x hx
 ·refine .inr ⟨j,e0.val,h1,?_,?_⟩
  ·rw[←hl,List.getElem?_map,h2];simp[h3]
  ·rw[←Array.getElem?_toList,h2];simp[h3]
theorem qid(law:Keyed P K)(ht:P.underlying t=some (.map K e)){z:Value}(hz:(zeroValue e).run P w=.ok z w)(h:qe8 w b L)(hk:KeysOk P K L){key:Value}{kl:Lit}(ha:keyOf P K key=some kl)(Ha:∀p∈L,p.1≠key)(c:Bool) :
  (Instr.lookup t (.map (some b)) key c).run P w=.ok (if c then .tuple #[z,.bool false] else z) w:=by
 obtain⟨es,clock,hb,hl,hf⟩:=qsf law h hk ha;rcases hf w with ⟨h1,_⟩ | ⟨j,v,_,h2,_⟩
 ·simp[Instr.lookup,run_underlying ht,MapKept.run_getObj_map hb,law.check w _ ha,h1,hz,Result.andThen]
 ·exact absurd rfl (Ha _ (List.mem_of_getElem? h2))
theorem qhj(law:Keyed P K)(ht:P.underlying t=some (.map K e))(h:qe8 w b L)(hk:KeysOk P K L){key:Value}{kl:Lit}(ha:keyOf P K key=some kl){v:Value}(hv:(key,v)∈L)(c:Bool) :
  (Instr.lookup t (.map (some b)) key c).run P w=.ok (if c then .tuple #[v,.bool true] else v) w:=by
 obtain⟨es,clock,hb,hl,hf⟩:=qsf law h hk ha;rcases hf w with ⟨_,h1⟩ | ⟨j,u,h1,h2,_⟩
 ·exact absurd rfl (h1 _ hv)
 ·obtain⟨i,hi,Ha⟩:=List.getElem_of_mem hv
  have e1:i=j:=hk.one i j (key,v) (key,u) (by rw[List.getElem?_eq_getElem hi,Ha]) h2 rfl;subst e1;rw[List.getElem?_eq_getElem hi,Ha]at h2;have e2:v=u:=by simpa using h2
  subst e2;simp[Instr.lookup,run_underlying ht,MapKept.run_getObj_map hb,law.check w _ ha,h1,Result.andThen]
theorem qic(law:Keyed P K)(ht:P.underlying t=some (.map K e))(h:qe8 w b L)(hk:KeysOk P K L){key val:Value}{kl:Lit}(ha:keyOf P K key=some kl)(Ha:∀p∈L,p.1≠key) :
  ∃w',(Instr.mapUpdate t (.map (some b)) key val).run P w=.ok () w'∧qe8 w' b (L++[(key,val)])∧w.grownBy w' (some b)∧w'.heap.size=w.heap.size:=by
 obtain⟨es,clock,hb,hl,hf⟩:=qsf law h hk ha;rcases hf w with ⟨h1,_⟩ | ⟨j,u,_,h2,_⟩
 ·refine⟨setBlock w b (.map (es.push ⟨key,val,clock⟩) (clock+1)),?_,⟨_,_,heap_setBlock_same hb _,?_⟩,⟨rfl,rfl,rfl,by simp[setBlock],fun i _ hi=>heap_setBlock_other hb _ (fun e=>hi (by rw[e]))⟩,by simp[setBlock]⟩
  ·simp[Instr.mapUpdate,run_underlying ht,MapKept.run_getObj_map hb,law.check w false ha,h1,MapKept.run_setObj_map _ hb,Result.andThen,setBlock]
  ·rw[Array.toList_push,List.map_append,hl];rfl
 ·exact absurd rfl (Ha _ (List.mem_of_getElem? h2))
theorem qj2(law:Keyed P K)(ht:P.underlying t=some (.map K e))(h:qe8 w b L)(hk:KeysOk P K L){key val v:Value}{kl:Lit}(ha:keyOf P K key=some kl)(i:Nat)(hv:L[i]?=some (key,v)) :
  ∃w',(Instr.mapUpdate t (.map (some b)) key val).run P w=.ok () w'∧qe8 w' b (L.set i (key,val))∧w.grownBy w' (some b)∧w'.heap.size=w.heap.size:=by
 obtain⟨es,clock,hb,hl,hf⟩:=qsf law h hk ha;rcases hf w with ⟨_,h1⟩ | ⟨j,u,h1,h2,h3⟩
 ·exact absurd rfl (h1 _ (List.mem_of_getElem? hv))
 ·have e1:i=j:=hk.one i j _ _ hv h2 rfl
  subst e1;obtain⟨e0,h4,h5⟩:=Option.map_eq_some_iff.1 h3;refine⟨setBlock w b (.map (es.modify i (fun e'=>{ e' with key:=key,val:=val })) clock),?_,⟨_,_,heap_setBlock_same hb _,?_⟩,⟨rfl,rfl,rfl,by simp[setBlock],fun i _ hi=>heap_setBlock_other hb _ (fun e=>hi (by rw[e]))⟩,by simp[setBlock]⟩
  ·simp[Instr.mapUpdate,run_underlying ht,MapKept.run_getObj_map hb,law.check w false ha,h1,h4,h5,law.stays w ha,MapKept.run_setObj_map _ hb,Result.andThen,setBlock]
  ·rw[Array.toList_modify,modify_eq_set _ _ _ _ (by rw[Array.getElem?_toList];exact h4),List.map_set,hl]
end
end Go.Proofs.YtfkhljmiehdgmaaGreatDoor
namespace Go.Proofs.YtfkhljmiehdgmaaGreatDoor.Pl
theorem q09(l:List UInt8):(qfn l).length≤9:=by
 unfold qfn;split
 ·rw[List.length_take];omega
 ·omega
theorem qlx(l:List UInt8):(qcb l).length≤12:=by
 unfold qcb;split
 ·rw[List.length_drop];omega
 ·omega
theorem qyx(m:Int)(l:List UInt8)(b:UInt8):(kept m (l++[b])).length≤l.length+1:=by
 unfold kept
 repeat' split
 all_goals simp
 all_goals omega
theorem qn8(m:Nat)(b:UInt8)(hm:m≤33):tgt m b=-1∨tgt m b=-2∨∃k:Nat,tgt m b=k∧k≤33:=by
 have key:∀k:Fin 34,∀r∈qe1 k.val,-2≤r.2∧r.2≤33:=by decide
 have h:-2≤tgt m b∧tgt m b≤33:=by
  unfold tgt;split
  ·next r hr=>exact key ⟨m,by omega⟩ r (List.mem_of_find?_eq_some hr)
  ·omega
 by_cases h1:tgt m b=-1
 ·exact .inl h1
 by_cases h2:tgt m b=-2
 ·exact .inr (.inl h2)
 exact .inr (.inr ⟨(tgt m b).toNat,by omega,by omega⟩)
structure SpOk(n:Nat)(p:Sp):Prop where
 mode:∃m:Nat,p.mode=m∧m≤33
 tag:p.tag.length≤9
 attr:p.attr.length≤9
 inside:p.inside.length≤12
 run:p.run.length≤n
theorem qjo(n:Nat):SpOk n Sp.start:=⟨⟨1,rfl,by omega⟩,by decide,by decide,by decide,Nat.zero_le _⟩
theorem qu8(n:List UInt8):qav n≤33:=by
 unfold qav
 repeat' split
 all_goals omega
theorem q5x{n:Nat}{p:Sp}(h:SpOk n p)(m:Nat)(b:UInt8)(tz:Int):(p.named m b tz).tag.length≤9∧(p.named m b tz).attr.length≤9∧(p.named m b tz).inside.length≤12:=by
 have a:=h.tag;have c:=h.attr;have d:=h.inside;unfold Sp.named
 repeat' split
 all_goals refine⟨?_,?_,?_⟩
 all_goals first | assumption | exact q09 _ | simp
theorem qyi{n:Nat}{p:Sp}(h:SpOk n p)(m:Nat)(b:UInt8)(hm:m≤33)(h2:¬tgt m b=-2):SpOk (n+1) (p.step1 m b):=by
 unfold Sp.step1;by_cases h1:tgt m b=-1
 ·rw[if_pos h1]
  split
  ·exact qjo _
  ·exact⟨⟨_,rfl,qu8 _⟩,h.tag,Nat.zero_le _,Nat.zero_le _,Nat.zero_le _⟩
 ·rw[if_neg h1]
  have k:=q5x h m b (tgt m b);refine⟨?_,k.1,k.2.1,k.2.2,?_⟩
  ·rcases qn8 m b hm with q | q | q
   ·exact absurd q h1
   ·exact absurd q h2
   ·exact q
  ·show (if _ then _ else _:List UInt8).length≤_
   split
   ·exact Nat.le_trans (qyx _ _ _) (Nat.succ_le_succ h.run)
   ·exact Nat.zero_le _
theorem qkx(m:Nat):qa8 m≤33:=by
 unfold qa8
 repeat' split
 all_goals omega
theorem qjh(m:Nat)(b:UInt8):¬tgt (qa8 m) b=-2:=by
 have key:∀r∈qe1 20++qe1 28++qe1 1,¬r.2=-2:=by decide
 have h:qa8 m=20∨qa8 m=28∨qa8 m=1:=by
  unfold qa8
  repeat' split
  all_goals simp
 intro q;unfold tgt at q;split at q
 ·next r hr=>
  have hr:=List.mem_of_find?_eq_some hr;refine key r ?_ q;rcases h with h | h | h<;>rw[h]at hr<;>simp[hr]
 ·omega
theorem q2j{n:Nat}{p:Sp}(h:SpOk n p)(m:Nat)(b:UInt8)(hm:m≤33):SpOk (n+1) (p.step m b):=by
 unfold Sp.step;split
 ·exact qyi (p:=Sp.mk (qa8 m) p.tag p.attr p.inside [] p.far) ⟨⟨qa8 m,rfl,qkx m⟩,h.tag,h.attr,h.inside,Nat.zero_le _⟩ _ b (qkx m) (qjh m b)
 ·next h2=>exact qyi h m b hm h2
theorem q1a{n:Nat}{p:Sp}(h:SpOk n p)(m:Nat)(b:UInt8)(hm:m≤33):SpOk (n+1) (p.element m b):=by
 unfold Sp.element;split
 ·split
  ·exact qjo _
  ·exact⟨⟨12,rfl,by omega⟩,by decide,by decide,by decide,Nat.zero_le _⟩
 ·split
  ·exact⟨⟨m,rfl,hm⟩,h.tag,h.attr,qlx _,by have:=h.run;simp only[List.length_append,List.length_singleton];omega⟩
  ·split
   ·exact⟨⟨m,rfl,hm⟩,h.tag,h.attr,qlx _,Nat.le_trans (qyx _ _ _) (Nat.succ_le_succ h.run)⟩
   ·exact q2j (p:=Sp.mk m p.tag p.attr (qcb (p.inside++[b])) p.run p.far) ⟨⟨m,rfl,hm⟩,h.tag,h.attr,qlx _,h.run⟩ m b hm
theorem q8f{n:Nat}{p:Sp}(h:SpOk n p)(b:UInt8):SpOk (n+1) (p.next b):=by
 obtain⟨m,hm,ha⟩:=h.mode;have e:p.mode.toNat=m:=by rw[hm];rfl
 unfold Sp.next;rw[e];split
 ·exact q1a h m b ha
 ·exact q2j h m b ha
end Go.Proofs.YtfkhljmiehdgmaaGreatDoor.Pl
