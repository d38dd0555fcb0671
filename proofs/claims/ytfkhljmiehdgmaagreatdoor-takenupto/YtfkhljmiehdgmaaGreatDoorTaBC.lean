/-
  Steps of the proof (texts laid together, blanks left out): TgT, TgN, EnC, PoB.
-/
import Derived.Test.YtfkhljmiehdgmaaGreatDoorTaBB
import Derived.Test.YtfkhljmiehdgmaaGreatDoorTaAG
import Derived.Test.YtfkhljmiehdgmaaGreatDoorTaAK
import Derived.BigQuiet
import Derived.BigRegion
import Derived.Deep.QuietTactic
import Derived.Deep.RegionWith
import Derived.RegionTactic
import Derived.Test.YtfkhljmiehdgmaaGreatDoorTaAR
import Derived.Test.YtfkhljmiehdgmaaGreatDoorTaAA
import Derived.Test.YtfkhljmiehdgmaaGreatDoorTaAY
import Derived.Test.YtfkhljmiehdgmaaGreatDoorTaBA
import Derived.Test.YtfkhljmiehdgmaaGreatDoorTaAB
namespace Go.Proofs.YtfkhljmiehdgmaaGreatDoor
open Go.RowKit
theorem qjl {P:Program} {fn:Func} {R:Ending→World→Prop} {a:Act} {w:World} {t p:Tmp} {ty:TypeId} (h:fn.results=#[.tmp t,.cell p ty]) (hdf:a.defers=[]) (g:Nat) (x u0 u1:Value) (hx:a.tmps.getD t undef=x) (hp:a.tmps.getD p undef=.pointer (some ⟨g,0,none⟩))
  (hb:w.heap[g]?=some (.cells #[u0,u1] ty (0,0))) (d:TypeDesc) (hu:P.underlying ty=some d) (hd:aggD d=true) (hi:(P.info? ty).map (·.size)=some 2) (hR:R (.returned (.tuple #[x,.agg #[u0,u1]])) w):bodyPost P fn R .ret a w:=by
 subst hx
 refine bodyPost_ret ?_ hdf hR
 have hl:=qbw (P:=P) w g ty #[u0,u1] d (qaa hb) hu (by cases d<;>first | rfl | cases hd) hi
 rw[Array.getD_eq_getD_getElem?]at hp
 simp only[results,h]
 simp[hp,asAddr,hl]
set_option maxRecDepth 100000 in
set_option maxHeartbeats 3200000 in
theorem qxs (T:ByteArray) (w:World) (hm:qay w) (hs:T.size≤2000) (hR:qc8 T.data.toList) :
  Calls Tryz.prog 74 #[.string T] w fun e w'=>(∃ v,e=.returned (.tuple #[v,qf7 (Pl.qav T.data.toList).1.1 (Pl.qav T.data.toList).1.2])∧((Pl.qav T.data.toList).1.1=0→w'.ownsRow w.heap.size 229 4 v (Pl.qav T.data.toList).2.length (qbq (Pl.qav T.data.toList).2)))∧Below w.heap.size w w':=by
 have hl:T.data.toList.length=T.size:=by simp
 have hTT:(⟨T.data.toList.toArray⟩:ByteArray)=T:=by cases T; simp
 rw[Pl.qjz _ (by omega)]
 have hgl:11<w.heap.size:=by
  obtain⟨m,h⟩:=hm
  exact World.block_lt_of_cell? _ _ h
 have hCl:=fun w=>qtz T w (by omega)
 have hCut:=fun(w1:World) (hb:Below w.heap.size w w1)=>q69 (w1.alloc (.cells #[.string T,.string ⟨#[123,123]⟩,.string ⟨#[125,125]⟩,.slice none 0 0,.slice none 0 0] 222)) w.heap.size w1.heap.size T.data.toList Pl.Ct.start (.slice none 0 0) (.slice none 0 0)
  ⟨by rw[heap_alloc_new]; show _=some (Obj.cells #[.string (⟨T.data.toList.toArray⟩:ByteArray),_,_,_,_] _ _); rw[hTT]; rfl,World.ownsRow_nil _ _ _ _,World.ownsRow_nil _ _ _ _,hb.size⟩ (Pl.qhe _) ((hm.below hb).below ((Below.refl _ _).alloc (Nat.le_refl _) _)) (by omega) hR hgl
 generalize Pl.Ct.start.rest T.data.toList 0=R at hCut ⊢
 have c1:¬(2000:Int)<(T.size:Int):=by omega
 have HCl:=(show Hid _ from hCl)
 have HCut:=(show Hid _ from hCut)
 clear hCl hCut hm hR
 by_cases h0:R.1.1=0
 ·have e0:(R.1.1:Int)=0:=by omega
  rw[if_pos h0]
  go_enter Tryz.func74,Tryz.ntmps74
  go_wp2_with (first
   | (go_at_call 73; refine Calls.mono (HCl.out _) ?_; rintro e w1 ⟨rfl,hb⟩; have HB1:Hid (Below w.heap.size w w1):=((Below.refl w.heap.size w).alloc (Nat.le_refl _) _).trans (hb.mono (by simp)); have HS1:Hid (w1.heap[w.heap.size]?=some (.cells #[.int .i64 0,.int .i64 0] 169 (0,0))):=(hb.block _ (by simp)).trans (heap_alloc_new w _); clear hb)
   | (go_at_call 104; refine Calls.mono (HCut.out _ HB1.out) ?_; rintro e w2 ⟨rfl,hc,hx⟩; unfold qf7; have HC:Hid (Cur w.heap.size w1.heap.size (w1.alloc (.cells #[.string T,.string ⟨#[123,123]⟩,.string ⟨#[125,125]⟩,.slice none 0 0,.slice none 0 0] 222)) w2):=hc; obtain⟨c,vp,vo,hA,hP⟩:=hx h0; have b3:∀ o,(w2.alloc o).cell? ⟨w1.heap.size,3,none⟩=some vp:=fun o=>(hA.alloc o).cell 3 _ rfl; have hlt1:w.heap.size<w1.heap.size:=(Array.getElem?_eq_some_iff.1 HS1.out).1; have z2:=(hc.keep _ _ _ _ ((heap_alloc_old w1 _ hlt1).trans HS1.out) (by omega) qb3 qcb).trans ((heap_alloc_old w1 _ hlt1).trans HS1.out); have hlt2:w.heap.size<w2.heap.size:=(Array.getElem?_eq_some_iff.1 z2).1; obtain⟨s0,s1,fs0,fs1⟩:=qel z2; have HZ:=(show Hid _ from z2); have HA:=(show Hid _ from hA); have HP:=(show Hid _ from hP); clear hc hx hA hP z2))
  have hW:=qn0 HZ.out (.int .i64 0) (.int .i64 0)
  refine qjl Tryz.results74 rfl w.heap.size vp (.int .i64 0) (.int .i64 0) rfl rfl ((heap_alloc_old _ _ (by simp; exact hlt2)).trans hW) _ Tryz.underlying169 rfl (by kernel_rfl) ?_
  refine⟨⟨_,rfl,fun _=>?_⟩,?_⟩
  ·have h1:=(((HA.out.setSlip HZ.out 0 (.int .i64 0)).setSlip (heap_setCell_same _ _ _ _ _ _ HZ.out) 1 (.int .i64 0)).alloc (.cells #[.int .i64 0,.int .i64 R.1.2] 169)).parts
   rw[HP.out]at h1
   exact h1
  ·exact((((HB1.out.alloc HB1.out.size _).trans HC.out.below).setCell (p:=⟨w.heap.size,0,none⟩) (Nat.le_refl _) _).setCell (p:=⟨w.heap.size,1,none⟩) (Nat.le_refl _) _).alloc (by simp; omega) _
 ·have e0:¬(R.1.1:Int)=0:=by omega
  rw[if_neg h0]
  go_enter Tryz.func74,Tryz.ntmps74
  go_wp2_with (first
   | (go_at_call 73; refine Calls.mono (HCl.out _) ?_; rintro e w1 ⟨rfl,hb⟩; have HB1:Hid (Below w.heap.size w w1):=((Below.refl w.heap.size w).alloc (Nat.le_refl _) _).trans (hb.mono (by simp)); have HS1:Hid (w1.heap[w.heap.size]?=some (.cells #[.int .i64 0,.int .i64 0] 169 (0,0))):=(hb.block _ (by simp)).trans (heap_alloc_new w _); clear hb)
   | (go_at_call 104; refine Calls.mono (HCut.out _ HB1.out) ?_; rintro e w2 ⟨rfl,hc,hx⟩; unfold qf7; have HC:Hid (Cur w.heap.size w1.heap.size (w1.alloc (.cells #[.string T,.string ⟨#[123,123]⟩,.string ⟨#[125,125]⟩,.slice none 0 0,.slice none 0 0] 222)) w2):=hc; have hlt1:w.heap.size<w1.heap.size:=(Array.getElem?_eq_some_iff.1 HS1.out).1; have z2:=(hc.keep _ _ _ _ ((heap_alloc_old w1 _ hlt1).trans HS1.out) (by omega) qb3 qcb).trans ((heap_alloc_old w1 _ hlt1).trans HS1.out); have hlt2:w.heap.size<w2.heap.size:=(Array.getElem?_eq_some_iff.1 z2).1; obtain⟨s0,s1,fs0,fs1⟩:=qel z2; have HZ:=(show Hid _ from z2); clear hc hx z2))
  go_region
  all_goals
   go_wp2_with fail
   have hW:=qn0 HZ.out (.int .i64 R.1.1) (.int .i64 R.1.2)
   refine qjl Tryz.results74 rfl w.heap.size (.slice none 0 0) (.int .i64 R.1.1) (.int .i64 R.1.2) rfl rfl ((heap_alloc_old _ _ (by simp; exact hlt2)).trans hW) _ Tryz.underlying169 rfl (by kernel_rfl) ?_
   refine⟨⟨_,rfl,fun h1=>absurd h1 h0⟩,?_⟩
   exact(((((HB1.out.alloc HB1.out.size _).trans HC.out.below).setCell (p:=⟨w.heap.size,0,none⟩) (Nat.le_refl _) _).setCell (p:=⟨w.heap.size,1,none⟩) (Nat.le_refl _) _).alloc (by simp; omega) _).drew
theorem qr6 (T:ByteArray) (w:World) (hs:2000<T.size) :
  Calls Tryz.prog 74 #[.string T] w fun e w'=>e=.returned (.tuple #[.slice none 0 0,qf7 1 0])∧Below w.heap.size w w':=by
 have c1:(2000:Int)<(T.size:Int):=by omega
 unfold qf7
 go_enter Tryz.func74,Tryz.ntmps74
 go_wp2_with fail
 refine qjl Tryz.results74 rfl w.heap.size (.slice none 0 0) (.int .i64 1) (.int .i64 0) rfl rfl (heap_alloc_new w _) _ Tryz.underlying169 rfl (by kernel_rfl) ?_
 exact⟨rfl,(Below.refl _ _).alloc (Nat.le_refl _) _⟩
theorem qu0 (T:ByteArray) (w:World) (hm:qay w) (hR:qc8 T.data.toList) :
  Calls Tryz.prog 74 #[.string T] w fun e w'=>(∃ v,e=.returned (.tuple #[v,qf7 (Pl.qav T.data.toList).1.1 (Pl.qav T.data.toList).1.2])∧((Pl.qav T.data.toList).1.1=0→w'.ownsRow w.heap.size 229 4 v (Pl.qav T.data.toList).2.length (qbq (Pl.qav T.data.toList).2)))∧Below w.heap.size w w':=by
 by_cases hs:T.size≤2000
 ·exact qxs T w hm hs hR
 ·have hl:T.data.toList.length=T.size:=by simp
  have hc:Pl.qav T.data.toList=((1,0),[]):=by unfold Pl.qav; rw[if_pos (by omega)]
  rw[hc]
  refine(qr6 T w (by omega)).mono ?_
  rintro e w' ⟨rfl,hb⟩
  exact⟨⟨_,rfl,fun h=>by cases h⟩,hb⟩
set_option maxRecDepth 100000 in
set_option maxHeartbeats 1600000 in
theorem qso (s:ByteArray) (w:World) (h7:Pl.qa6 s.data.toList=7) :
  Calls Tryz.prog 149 #[.string s] w fun e w'=>e=.returned (qdl ⟨7,0,[],[],[]⟩)∧Below w.heap.size w w':=by
 have HK:=(show Hid _ from fun w=>h7▸qft s w)
 clear h7
 go_enter Tryz.func149,Tryz.ntmps149
 go_wp2_with (go_at_call 193; refine Calls.mono (HK.out _) ?_; rintro e w' ⟨rfl,rfl⟩)
 exact qmt (r:=⟨7,0,[],[],[]⟩) Tryz.results149 rfl rfl (heap_alloc_new w _) ((Below.refl _ _).alloc (Nat.le_refl _) _)
set_option maxRecDepth 100000 in
set_option maxHeartbeats 1600000 in
theorem q0o (s:ByteArray) (w:World) (r:Pl.Tg) (h2:Pl.qa6 s.data.toList=2)
  (hN:∀ o,Calls Tryz.prog 195 #[.int .i64 (2:Nat),.string s] (w.alloc o) fun e w'=>e=.returned (qdl r)∧Below (w.alloc o).heap.size (w.alloc o) w') :
  Calls Tryz.prog 149 #[.string s] w fun e w'=>e=.returned (qdl r)∧Below w.heap.size w w':=by
 have HK:=(show Hid _ from fun w=>h2▸qft s w)
 have HN:=(show Hid _ from hN)
 have HR:Hid (#[Value.int .i64 r.kind,.int .i64 r.slip,bs r.name,bs r.op,bs r.cl]=qky r):=rfl
 clear h2 hN
 unfold qdl at HN
 unfold bs at HN HR
 generalize (r.kind:Int)=r0 at HN HR
 generalize (r.slip:Int)=r1 at HN HR
 generalize (⟨r.name.toArray⟩:ByteArray)=r2 at HN HR
 generalize (⟨r.op.toArray⟩:ByteArray)=r3 at HN HR
 generalize (⟨r.cl.toArray⟩:ByteArray)=r4 at HN HR
 go_enter Tryz.func149,Tryz.ntmps149
 go_wp2_with (first
   | (go_at_call 193; refine Calls.mono (HK.out _) ?_; rintro e w' ⟨rfl,rfl⟩)
   | (go_at_call 195; refine Calls.mono (HN.out _) ?_; rintro e w' ⟨rfl,hb⟩; have hS:=(qdc w).next hb; obtain⟨⟨k0,k1,k2,k3,k4⟩,f0,f1,f2,f3,f4⟩:=hS.facts; have HS:=(show Hid _ from hS); clear hb hS))
 exact qfs (w0:=w) r Tryz.results149 rfl rfl HS.out HR.out
set_option maxRecDepth 100000 in
set_option maxHeartbeats 1600000 in
theorem q0n (s:ByteArray) (w:World) (r:Pl.Tg) (K:Nat) (L:ByteArray) (hk:Pl.qa6 s.data.toList=K) (h2:K≠2) (h7:K≠7) (h8:K≠8) (hs:s.size≠0) (hm:qay w)
  (hT:∀ w,Calls Tryz.prog 196 #[.string (s.extract 1 s.size),.string ⟨#[9,10,12,13,32]⟩] w fun e w'=>e=.returned (.string L)∧Below w.heap.size w w')
  (hN:∀ w,qay w→Calls Tryz.prog 195 #[.int .i64 K,.string L] w fun e w'=>e=.returned (qdl r)∧Below w.heap.size w w') :
  Calls Tryz.prog 149 #[.string s] w fun e w'=>e=.returned (qdl r)∧Below w.heap.size w w':=by
 have HK:=(show Hid _ from fun w=>hk▸qft s w)
 have HN:=(show Hid _ from hN)
 have HT:=(show Hid _ from hT)
 have HM:=(show Hid _ from hm)
 have HR:Hid (#[Value.int .i64 r.kind,.int .i64 r.slip,bs r.name,bs r.op,bs r.cl]=qky r):=rfl
 have c1:(1:Int)≤(s.size:Int):=by omega
 have e7:¬(K:Int)=7:=by omega
 have e8:¬(K:Int)=8:=by omega
 have e2:¬(K:Int)=2:=by omega
 clear hk h2 hN hT hm h7 h8 hs
 unfold qdl at HN
 unfold bs at HN HR
 generalize (r.kind:Int)=r0 at HN HR
 generalize (r.slip:Int)=r1 at HN HR
 generalize (⟨r.name.toArray⟩:ByteArray)=r2 at HN HR
 generalize (⟨r.op.toArray⟩:ByteArray)=r3 at HN HR
 generalize (⟨r.cl.toArray⟩:ByteArray)=r4 at HN HR
 go_enter Tryz.func149,Tryz.ntmps149
 go_wp2_with (first
   | (go_at_call 193; refine Calls.mono (HK.out _) ?_; rintro e w' ⟨rfl,rfl⟩)
   | (go_at_call 196; refine Calls.mono (HT.out _) ?_; rintro e w' ⟨rfl,hb⟩; have HS0:=(show Hid _ from(qdc w).next hb); clear hb)
   | (go_at_call 195; refine Calls.mono (HN.out _ (qay.below HM.out (TgSlot.below HS0.out))) ?_; rintro e w' ⟨rfl,hb⟩; have hS:=TgSlot.next HS0.out hb; obtain⟨⟨k0,k1,k2,k3,k4⟩,f0,f1,f2,f3,f4⟩:=hS.facts; have HS:=(show Hid _ from hS); clear hb hS))
 exact qfs (w0:=w) r Tryz.results149 rfl rfl HS.out HR.out
theorem qx7 (s:ByteArray) (w:World) (hs:s.size≤100000) (hm:qay w) (h8:Pl.qa6 s.data.toList≠8) :
  Calls Tryz.prog 149 #[.string s] w fun e w'=>e=.returned (qdl (Pl.qcg s.data.toList))∧Below w.heap.size w w':=by
 by_cases h7:Pl.qa6 s.data.toList=7
 ·have HV:Pl.qcg s.data.toList=⟨7,0,[],[],[]⟩:=by unfold Pl.qcg; rw[if_pos h7]
  rw[HV]
  exact qso s w h7
 by_cases h2:Pl.qa6 s.data.toList=2
 ·have HV:Pl.qcg s.data.toList=Pl.qc4 2 s.data.toList:=by unfold Pl.qcg; rw[if_neg h7,if_neg h8,if_pos h2]
  rw[HV]
  exact q0o s w _ h2 fun o=>qmu 2 s (w.alloc o) hs (hm.below ((Below.refl _ _).alloc (Nat.le_refl _) _))
 have hne:s.size≠0:=fun q=>h2 (by
  have:s.data.toList=[]:=by
   apply List.eq_nil_of_length_eq_zero; simpa using q
  rw[this]; rfl)
 have HV:Pl.qcg s.data.toList=Pl.qc4 (Pl.qa6 s.data.toList) (Lib.trimLeftS (s.data.toList.drop 1) Pl.qbc):=by unfold Pl.qcg; rw[if_neg h7,if_neg h8,if_neg h2]
 rw[HV]
 have hx:(s.extract 1 s.size).data.toList=s.data.toList.drop 1:=by
  rw[Lib.extract_eq]
  show List.take _ _=_
  exact List.take_of_length_le (by simp)
 have hlt:(Lib.trimLeftS (s.data.toList.drop 1) Pl.qbc).length≤100000:=by
  have:=Pl.qka (s.data.toList.drop 1) Pl.qbc
  have h3:s.data.toList.length=s.size:=by simp
  rw[List.length_drop]at this
  omega
 refine q0n s w _ _ ⟨(Lib.trimLeftS (s.data.toList.drop 1) Pl.qbc).toArray⟩ rfl h2 h7 h8 hne hm (fun w=>?_) (fun w hm=>?_)
 ·have:=qmq (s.extract 1 s.size) w
  rw[hx]at this
  exact this
 ·exact qmu _ ⟨(Lib.trimLeftS (s.data.toList.drop 1) Pl.qbc).toArray⟩ w (by simpa [ByteArray.size] using hlt) hm
def ql2 (f:Pl.Ft):Value:=.agg #[.int .i64 f.code,.int .i64 f.kind,bs f.place,.int .i64 f.pos]
def qa9 (L:List (ByteArray×ByteArray)):List (List UInt8×List UInt8):=L.map fun x=>(x.1.data.toList,x.2.data.toList)
def qop (w:World) (v:Value) (L:List (ByteArray×ByteArray)):Prop:=∃ ao cap,v=.slice ao L.length cap∧L.length≤cap∧cap≤maxLen∧(L≠[]→∃ b,ao=some ⟨b,0,none⟩∧PsAt w b L)
def q8l (w:World) (B:Nat) (p:Value) (r:List (Nat×List Int)×List Pl.Src):Prop:=∃ g F vv M s B',p=.pointer (some ⟨g,0,none⟩)∧w.heap[g]?=some (.cells #[vv] 81 (0,0))∧B≤B'∧SvAt w B' F r.2 vv M s∧s.vis=r.1
def q4v:Prop:=∀(T:ByteArray) (v:Value) (L:List (ByteArray×ByteArray)) (w:World),qop w v L→PTabs w→qay w→qc8 T.data.toList→(∀ p∈L,qc8 p.2.data.toList) →
    Calls Tryz.prog 12 #[.string T,v] w fun ed w'=>(∃ p,ed=.returned (.tuple #[p,ql2 (Pl.qbe T.data.toList (qa9 L)).2])∧((Pl.qbe T.data.toList (qa9 L)).2.code≠0→p=.pointer none)∧((Pl.qbe T.data.toList (qa9 L)).2.code=0→q8l w' w.heap.size p (Pl.qbe T.data.toList (qa9 L)).1))∧Below w.heap.size w w'
end Go.Proofs.YtfkhljmiehdgmaaGreatDoor
namespace Go.Proofs.YtfkhljmiehdgmaaGreatDoor
open Go.RowKit Go.Maps
theorem qef {P:Program} {fn:Func} {R:Ending→World→Prop} {a:Act} {w:World} {t p:Tmp} {ty:TypeId} (h:fn.results=#[.tmp t,.cell p ty]) (hdf:a.defers=[]) (g:Nat) (x:Value) (cs:Array Value) (hx:a.tmps.getD t undef=x) (hp:a.tmps.getD p undef=.pointer (some ⟨g,0,none⟩))
  (hb:w.heap[g]?=some (.cells cs ty (0,0))) (d:TypeDesc) (hu:P.underlying ty=some d) (hd:aggD d=true) (hi:(P.info? ty).map (·.size)=some cs.size) (hR:R (.returned (.tuple #[x,.agg cs])) w):bodyPost P fn R .ret a w:=by
 subst hx
 refine bodyPost_ret ?_ hdf hR
 have hl:=qbw (P:=P) w g ty cs d (qaa hb) hu (by cases d<;>first | rfl | cases hd) hi
 rw[Array.getD_eq_getD_getElem?]at hp
 simp only[results,h]
 simp[hp,asAddr,hl]
theorem qlj (s:Pl.Src):∀(l:List Pl.Src) (i:Nat),qbu i (l++[s])=qbu i l++[(bs s.name,.int .i64 (i+l.length:Nat))]
 | [],i=>by simp[qbu]
 | a::l,i=>by
   show (bs a.name,Value.int .i64 i)::qbu (i+1) (l++[s])=_
   rw[qlj s l (i+1)]
   show _::(qbu (i+1) l++[(bs s.name,Value.int .i64 ((i+1+l.length:Nat):Int))])=(bs a.name,Value.int .i64 i)::(qbu (i+1) l++[(bs s.name,Value.int .i64 ((i+(l.length+1):Nat):Int))])
   rw[show i+1+l.length=i+(l.length+1) by omega]
theorem qjg (m:List Pl.Src):∀(l:List Pl.Src) (i:Nat),qbu i (l++m)=qbu i l++qbu (i+l.length) m
 | [],i=>by simp[qbu]
 | a::l,i=>by
   show (bs a.name,Value.int .i64 i)::qbu (i+1) (l++m)=(bs a.name,Value.int .i64 i)::(qbu (i+1) l++qbu (i+(l.length+1)) m)
   rw[qjg m l (i+1),show i+1+l.length=i+(l.length+1) by omega]
theorem KeysOk.front {P:Program} {K:TypeId} {L M:List (Value×Value)} (h:KeysOk P K (L++M)):KeysOk P K L:=
 ⟨fun p hp=>h.key p (List.mem_append_left _ hp),fun i j p q hi hj e=>h.one i j p q (by rw[List.getElem?_append_left (List.getElem?_eq_some_iff.1 hi).1]; exact hi) (by rw[List.getElem?_append_left (List.getElem?_eq_some_iff.1 hj).1]; exact hj) e⟩
theorem KeysOk.apart {P:Program} {K:TypeId} {L M:List (Value×Value)} {x:Value×Value} (h:KeysOk P K (L++x::M)):∀ p∈L,p.1≠x.1:=fun p hp e=>by
 obtain⟨i,hi⟩:=List.getElem?_of_mem hp
 have hl:=(List.getElem?_eq_some_iff.1 hi).1
 have:=h.one i L.length p x (by rw[List.getElem?_append_left hl]; exact hi) (by simp) e
 omega
theorem qvl {S:List Pl.Src} (hS:SrcsOk S) {k:Nat} {s:Pl.Src} (hk:1≤k) (hs:S[k]?=some s) :
  KeysOk Tryz.prog 9 (qbu 1 ((S.drop 1).take (k - 1)))∧(∀ p∈qbu 1 ((S.drop 1).take (k - 1)),p.1≠bs s.name)∧qbu 1 ((S.drop 1).take (k - 1))++[(bs s.name,.int .i64 (k:Nat))]=qbu 1 ((S.drop 1).take k):=by
 have hlt:=(List.getElem?_eq_some_iff.1 hs).1
 have hd:(S.drop 1)[k - 1]?=some s:=by rw[List.getElem?_drop,show 1+(k - 1)=k by omega]; exact hs
 have hdl:=(List.getElem?_eq_some_iff.1 hd).1
 have htl:((S.drop 1).take (k - 1)).length=k - 1:=by rw[List.length_take]; omega
 have e1:(S.drop 1).take k=(S.drop 1).take (k - 1)++[s]:=by
  have h1:=List.take_succ_eq_append_getElem hdl
  rw[show k - 1+1=k by omega]at h1
  rw[h1]
  congr 2
  rw[List.getElem?_eq_getElem hdl]at hd
  exact Option.some.inj hd
 have e2:qbu 1 ((S.drop 1).take (k - 1))++[(bs s.name,.int .i64 (k:Nat))]=qbu 1 ((S.drop 1).take k):=by
  rw[e1,qlj,htl,show 1+(k - 1)=k by omega]
 have hall:=qnh hS
 rw[← List.take_append_drop k (S.drop 1),qjg,← e2,List.append_assoc]at hall
 exact⟨hall.front,KeysOk.apart (x:=(bs s.name,.int .i64 (k:Nat))) hall,e2⟩
structure Lki (w wr:World) (B:Nat) (F:Fix) (S:List Pl.Src) (R n:Nat):Prop where
 blk:wr.heap[F.g]?=some (.cells (qjn F S.length (.slice none 0 0) Pl.Ft.none) 178 (0,0))
 src:SrcAt wr B F S
 places:qep wr F.bp (qbu 1 ((S.drop 1).take (n - 1)))
 ends:qep wr F.be []
 nums:qep wr F.bn []
 res:wr.heap[R]?=some (.cells #[.int .i64 0,.int .i64 0,.string ⟨#[]⟩,.int .i64 0] 31 (0,0))
 le:B≤F.g∧B≤F.be∧B≤F.bn∧B≤F.bp∧B≤R
 apart:F.g≠F.be∧F.bp≠F.be∧F.bn≠F.be∧F.bn≠F.bp
 below:Below B w wr
 old:w.heap.size≤F.g∧w.heap.size≤F.bp∧w.heap.size≤R∧w.heap.size≤wr.heap.size
 kp:∀ k,k<w.heap.size→wr.heap[k]?=w.heap[k]?
theorem Lki.next {w wr w':World} {B:Nat} {F:Fix} {S:List Pl.Src} {R n:Nat} (h:Lki w wr B F S R n) (hb:Below wr.heap.size wr w') (hB:B≤wr.heap.size):Lki w w' B F S R n:=
 ⟨(hb.block _ (Array.getElem?_eq_some_iff.1 h.blk).1).trans h.blk,h.src.kept (by obtain⟨cs,fz,hc⟩:=h.src.blk; exact hb.block _ (Array.getElem?_eq_some_iff.1 hc).1) (fun i s k hs hv=>by obtain⟨cur,hc⟩:=qae (h.src.row i s hs) k hv; exact hb.block _ (Array.getElem?_eq_some_iff.1 hc).1),h.places.heap (hb.block _ h.places.lt),h.ends.heap (hb.block _ h.ends.lt),h.nums.heap (hb.block _ h.nums.lt),(hb.block _ (Array.getElem?_eq_some_iff.1 h.res).1).trans h.res,h.le,h.apart,h.below.trans (hb.mono hB),⟨h.old.1,h.old.2.1,h.old.2.2.1,Nat.le_trans h.old.2.2.2 hb.size⟩,fun k hk=>(hb.block k (Nat.lt_of_lt_of_le hk h.old.2.2.2)).trans (h.kp k hk)⟩
theorem Lki.put {w wr:World} {B:Nat} {F:Fix} {S:List Pl.Src} {R n:Nat} (h:Lki w wr B F S R n) (hS:SrcsOk S) (hn:1≤n) {s:Pl.Src} (hs:S[n]?=some s) :
  ∃ w',(Instr.mapUpdate 174 (.map (some F.bp)) (.string ⟨s.name.toArray⟩) (.int .i64 n)).run Tryz.prog wr=.ok () w'∧Lki w w' B F S R (n+1)∧w'.heap.size=wr.heap.size:=by
 obtain⟨k1,k2,k3⟩:=qvl hS hn hs
 obtain⟨kl,hkl⟩:=qu3 ⟨s.name.toArray⟩ (by rw[qv9]; have:=hS.short n s hs; unfold maxLen; omega)
 obtain⟨w',h1,h2,h3,h4⟩:=qhq (val:=.int .i64 n) qk4 Tryz.underlying174 h.places k1 hkl k2
 have hk:∀ k,k<wr.heap.size→k≠F.bp→w'.heap[k]?=wr.heap[k]?:=fun k hk hne=>h3.block k hk (fun e=>hne (Option.some.inj e))
 refine⟨w',h1,?_,h4⟩
 have hbn:∀(k:Nat) (cs:Array Value) (t:TypeId) (fz:Nat×Nat),wr.heap[k]?=some (Obj.cells cs t fz)→w'.heap[k]?=wr.heap[k]?:=fun k cs t fz hc=>hk k (Array.getElem?_eq_some_iff.1 hc).1 (qai hc h.places)
 refine⟨(hbn _ _ _ _ h.blk).trans h.blk,h.src.kept (by obtain⟨cs,fz,hc⟩:=h.src.blk; exact hbn _ _ _ _ hc) (fun i s k hs hv=>by obtain⟨cur,hc⟩:=qae (h.src.row i s hs) k hv; exact hbn _ _ _ _ hc),?_,h.ends.heap (hk _ h.ends.lt h.apart.2.1.symm),h.nums.heap (hk _ h.nums.lt h.apart.2.2.2),(hbn _ _ _ _ h.res).trans h.res,h.le,h.apart,h.below.trans ⟨h3.os,h3.tape,h3.output,h3.size,fun k hkB=>h3.block k ?_ (fun e=>?_)⟩,⟨h.old.1,h.old.2.1,h.old.2.2.1,by rw[h4]; exact h.old.2.2.2⟩,fun q hq=>(hk q (Nat.lt_of_lt_of_le hq h.old.2.2.2) (by have:=h.old.2.1; omega)).trans (h.kp q hq)⟩
 ·unfold bs at k3
  rw[k3]at h2
  exact h2
 ·have:=h.below.size; have:=h.places.lt; have:=h.le.2.2.2.1; omega
 ·have:=h.le.2.2.2.1; have:=Option.some.inj e; omega
theorem Lki.drew {w wr:World} {B:Nat} {F:Fix} {S:List Pl.Src} {R n:Nat} (h:Lki w wr B F S R n) (hB:B≤wr.heap.size):Lki w wr.drew B F S R n:=h.next (Below.refl _ _).drew hB
def Pl.Sr.zero:Pl.Sr:=⟨[],[],[],Pl.Ft.none⟩
theorem Lki.start {w wr:World} {B:Nat} {F:Fix} {S:List Pl.Src} {R n:Nat} (h:Lki w wr B F S R n) (hn:S.length≤n):SvAt wr B F S (.slice none 0 0) [] Pl.Sr.zero:=by
 have e:(S.drop 1).take (n - 1)=S.drop 1:=List.take_of_length_le (by rw[List.length_drop]; omega)
 have hp:=h.places
 rw[e]at hp
 exact⟨⟨h.blk,h.src,hp,h.ends,⟨h.le.1,h.le.2.1⟩,h.apart.1,h.apart.2.1⟩,h.nums,World.ownsRow_nil _ _ _ _,rfl,fun i g v hi=>by simp at hi,List.nodup_nil,h.apart.2.2.1,h.apart.2.2.2,h.le.2.2.1⟩
theorem qqp {S:List Pl.Src} (hS:SrcsOk S):Pl.Pre S Pl.Sr.zero (0,Pl.Sx.start):=by
 exact⟨⟨Pl.qzc _,fun p hp=>(by cases hp),fun i j p q hi=>(by simp[Pl.Sr.zero]at hi),fun p hp=>(by cases hp),fun p hp=>(by cases hp),rfl⟩,rfl,.inl ⟨rfl,rfl⟩,Pl.qm5,hS.few.1⟩
namespace Pl
theorem qv8 (S:List Src) (s:Sr) (e:En) (len:Nat) (ho:EndsOk S.length s.ends) (he:SxFit e.2):(qgy S s e len).nums=s.nums∧(qgy S s e len).vis=s.vis:=by
 have hwk:=ql5 (qiu S 257 s.ends.length (by omega)) (qaj S e.1) ((qaj S e.1).length+1) 0 s e.2 ho (Nat.le_refl _) (.inr he)
 unfold qgy
 split
 ·exact⟨hwk.1.nums,hwk.1.vis⟩
 ·exact⟨hwk.1.nums,hwk.1.vis⟩
theorem qnp (S:List Src) (len:Nat):qdq S len =
  if(qdk S 258 Sr.zero (0,Sx.start)).fault.code≠0 then([],(qdk S 258 Sr.zero (0,Sx.start)).fault) else
  if(qgy S (qdk S 258 Sr.zero (0,Sx.start)) (0,Sx.start) len).fault.code≠0 then([],(qgy S (qdk S 258 Sr.zero (0,Sx.start)) (0,Sx.start) len).fault)
  else((qgy S (qdk S 258 Sr.zero (0,Sx.start)) (0,Sx.start) len).vis,Ft.none):=by
 unfold qdq qgy Sr.zero
 simp only
 split
 ·rfl
 ·split
  ·rename_i h
   rw[if_pos (by simp[Sr.wrong])]
   rfl
  ·rfl
end Pl
end Go.Proofs.YtfkhljmiehdgmaaGreatDoor
