/-
  Steps of the proof (texts laid together, blanks left out): ReD, ReE, ReF, ReN, ReO.
-/
import Derived.WalkSmall
import Derived.Lib.AppendIntMem
import Derived.Test.YtfkhljmiehdgmaaGreatDoorTaAG
import Derived.Deep.DeepCutAuto
import Derived.RangeFuncOwn
import Derived.Test.YtfkhljmiehdgmaaGreatDoorTaAF
namespace Go.Proofs.YtfkhljmiehdgmaaGreatDoor
open Go.RowKit
def quj (w:World):Prop:=Lib.TabIs Tryz.prog w "internal/strconv.uint64pow10" .u64 Lib.pow10Tab
theorem quj.below {B:Nat} {w w':World} (h:quj w) (hb:Below B w w') (hB:14<B):quj w':=var?_below hb (by kernel_rfl) hB h
set_option maxRecDepth 100000 in
set_option maxHeartbeats 3200000 in
theorem q2w (pv:Value) (ao:Option Addr) (n cap k:Nat) (hpv:pv=.agg #[.slice ao n cap,.int .i64 k]) (d:Pl.Dt) (B:Nat) (w:World) (hn0:-9223372036854775808≤d.n) (hn1:d.n≤9223372036854775807)
  (hP:∀ w',Below w.heap.size w w'→quj w')
  (hD:∀ o,Calls Tryz.prog 215 #[pv] (w.alloc o) fun e w'=>(∃ v,e=.returned v∧qkv B (w.alloc o) d v)∧Below (w.alloc o).heap.size (w.alloc o) w') :
  Calls Tryz.prog 176 #[pv] w fun e w'=>e=.returned (bs (Pl.qcf d))∧Below w.heap.size w w':=by
 subst hpv
 have HD:Hid (∀ o,Calls Tryz.prog 215 #[.agg #[.slice ao n cap,.int .i64 k]] (w.alloc o) fun e w'=>(∃ ia icap na ncap,e=.returned (.agg #[.int .i64 d.kind,.int .i64 d.n,bs d.s,.slice ia d.items.length icap,.slice na d.names.length ncap]))∧Below w.heap.size w w'):=fun o=>(hD o).mono (by
  rintro e w' ⟨⟨v,rfl,hv⟩,hb⟩
  obtain⟨ia,icap,na,ncap,rfl,_,_⟩:=qgi hv
  exact⟨⟨ia,icap,na,ncap,rfl⟩,(((Below.refl w.heap.size w).alloc (Nat.le_refl _) o).trans (hb.mono (by rw[qbd]; omega)))⟩)
 have HB:=(show Hid _ from fun(b:Bool) (w:World)=>(Tryz.strconv_FormatBool b w).mono (fun _ w' h=>(⟨h.1,h.2.symm⟩:_∧w=w')))
 have HF:Hid (∀ w',Below w.heap.size w w'→Calls Tryz.prog 217 #[.int .i64 d.n,.int .i64 10] w' fun e w2=>e=.returned (bs (Lib.itoa d.n))∧Below w.heap.size w w2):=fun w' hb=>(Tryz.strconv_FormatInt_10 d.n hn0 hn1 w' (hP w' hb)).mono (by
  rintro e w2 ⟨rfl,q,os,rfl⟩
  exact⟨rfl,hb.trans ((Lib.below_grow w'.heap.size w' (Nat.le_refl _) q os).mono hb.size)⟩)
 have HV:Hid (bs (Pl.qcf d)=if d.kind=1 then bs (Lib.formatBool (d.n != 0)) else if d.kind=2 then bs (Lib.itoa d.n) else if d.kind=3 then bs d.s else bs []):=by
  show _=_
  unfold Pl.qcf
  repeat' split
  all_goals rfl
 clear hD hP hn0 hn1
 generalize bs (Pl.qcf d)=R at HV ⊢
 unfold bs at HD HF HV
 generalize d.kind=dk at HD HV
 generalize (⟨(Lib.itoa d.n).toArray⟩:ByteArray)=it at HF HV
 generalize d.n=dn at HD HV HF
 generalize d.items.length=il at HD
 generalize d.names.length=nl at HD
 generalize (⟨d.s.toArray⟩:ByteArray)=ds at HD HV
 rcases(show dk=1∨dk=2∨dk=3∨(dk≠1∧dk≠2∧dk≠3) by omega)with rfl | rfl | rfl | ⟨h1,h2,h3⟩
 all_goals
  go_enter Tryz.func176,Tryz.ntmps176
  go_wp2_with (first
   | (go_at_call 215; refine Calls.mono (HD.out _) ?_; rintro e w' ⟨⟨ia,icap,na,ncap,rfl⟩,hb⟩)
   | (go_at_call 216; refine Calls.mono (HB.out _ _) ?_; rintro e w' ⟨rfl,rfl⟩)
   | (go_at_call 217; refine Calls.mono (HF.out _ (hb.alloc hb.size _)) ?_; rintro e w2 ⟨rfl,hb2⟩))
  go_ret
 ·exact⟨by rw[HV.out]; rfl,hb.alloc hb.size _⟩
 ·exact⟨by rw[HV.out]; rfl,hb2⟩
 ·exact⟨by rw[HV.out]; rfl,hb.alloc hb.size _⟩
 ·exact⟨by rw[HV.out]; simp[h1,h2,h3],hb.alloc hb.size _⟩
theorem qqr {f:Func} {a:Act} {w:World} {g:Nat} {p t:Tmp} {cs:Array Value} {x:Value} {R:Ending→World→Prop} (hf:f.results=#[.cell p 147,.tmp t]) (hp:a.tmps.getD p undef=.pointer (some ⟨g,0,none⟩)) (hx:a.tmps.getD t undef=x) (hd:a.defers=[]) (hw:w.heap[g]?=some (.cells cs 147 (0,0))) (hs:cs.size=2) (hR:R (.returned (.tuple #[.agg cs,x])) w) :
  bodyPost Tryz.prog f R .ret a w:=by
 subst hx
 refine bodyPost_ret ?_ hd hR
 have hl:=qbw (P:=Tryz.prog) w g 147 cs _ (qaa hw) Tryz.underlying147 rfl (by rw[hs]; kernel_rfl)
 rw[Array.getD_eq_getD_getElem?]at hp
 simp only[results,hf]
 simp[hp,asAddr,hl]
def qps (dv:Value) (r:Option Pl.Pc):Value:=.tuple #[qd9 dv (r.getD none),.bool r.isSome]
def fw (w:World) (ao:Option Addr) (n cap k:Nat):World:=(w.alloc (.cells #[.slice ao n cap,.int .i64 k] 147)).alloc (.cells #[.slice none 0 0,.int .i64 0] 147)
structure FwAt (w w':World) (ao:Option Addr) (n cap k:Nat):Prop where
 own:w'.heap[w.heap.size]?=some (.cells #[.slice ao n cap,.int .i64 k] 147 (0,0))
 res:w'.heap[w.heap.size+1]?=some (.cells #[.slice none 0 0,.int .i64 0] 147 (0,0))
 below:Below w.heap.size w w'
 size:w.heap.size+2≤w'.heap.size
theorem qhy (w:World) (ao:Option Addr) (n cap k:Nat):FwAt w (fw w ao n cap k) ao n cap k:=by
 unfold fw
 refine⟨?_,qvj w _ _,qiz w _ _,by rw[qbd,qbd]; omega⟩
 rw[heap_alloc_old _ _ (by rw[qbd]; omega)]
 exact heap_alloc_new w _
theorem FwAt.below' {w w1 w':World} {ao:Option Addr} {n cap k:Nat} (h:FwAt w w1 ao n cap k) {B:Nat} (hB:w.heap.size+2≤B) (hb:Below B w1 w'):FwAt w w' ao n cap k:=
 ⟨(hb.block _ (by omega)).trans h.own,(hb.block _ (by omega)).trans h.res,h.below.trans (hb.mono (by omega)),Nat.le_trans h.size hb.size⟩
theorem FwAt.drew {w w':World} {ao:Option Addr} {n cap k:Nat} (h:FwAt w w' ao n cap k):FwAt w w'.drew ao n cap k:=⟨h.own,h.res,h.below.drew,h.size⟩
theorem FwAt.facts {w w':World} {ao:Option Addr} {n cap k:Nat} (h:FwAt w w' ao n cap k):(w'.cell? ⟨w.heap.size,0,none⟩=some (.slice ao n cap)∧w'.cell? ⟨w.heap.size,1,none⟩=some (.int .i64 k)∧w'.cell? ⟨w.heap.size+1,0,none⟩=some (.slice none 0 0)∧w'.cell? ⟨w.heap.size+1,1,none⟩=some (.int .i64 0))∧w'.frozen? ⟨w.heap.size+1,0,none⟩=false∧w'.frozen? ⟨w.heap.size+1,1,none⟩=false:=by
 have c:=qaa h.own
 have d:=qaa h.res
 refine⟨⟨c 0 _ rfl,c 1 _ rfl,d 0 _ rfl,d 1 _ rfl⟩,?_⟩
 simp[World.frozen?,h.res]
set_option maxRecDepth 100000 in
set_option maxHeartbeats 3200000 in
theorem q1y (ao:Option Addr) (n cap k:Nat) (dv:Value) (name:ByteArray) (d:Pl.Dt) (w:World) (hk:d.kind≠5)
  (hD:Calls Tryz.prog 215 #[.agg #[.slice ao n cap,.int .i64 k]] (fw w ao n cap k) fun e w'=>(∃ v,e=.returned v∧qkv w.heap.size (fw w ao n cap k) d v)∧Below (fw w ao n cap k).heap.size (fw w ao n cap k) w') :
  Calls Tryz.prog 214 #[.agg #[.slice ao n cap,.int .i64 k],.string name] w fun e w'=>e=.returned (qps dv none)∧Below w.heap.size w w':=by
 have HD:Hid (Calls Tryz.prog 215 #[.agg #[.slice ao n cap,.int .i64 k]] (fw w ao n cap k) fun e w'=>(∃ ia icap na ncap,e=.returned (.agg #[.int .i64 d.kind,.int .i64 d.n,bs d.s,.slice ia d.items.length icap,.slice na d.names.length ncap]))∧FwAt w w' ao n cap k∧∀ o,FwAt w (w'.alloc o) ao n cap k):=hD.mono (by
  rintro e w' ⟨⟨v,rfl,hv⟩,hb⟩
  obtain⟨ia,icap,na,ncap,rfl,_,_⟩:=qgi hv
  have hF:=(qhy w ao n cap k).below' (qhy w ao n cap k).size hb
  exact⟨⟨ia,icap,na,ncap,rfl⟩,hF,fun o=>hF.below' hF.size ((Below.refl _ _).alloc (Nat.le_refl _) o)⟩)
 clear hD
 unfold bs fw at HD
 generalize d.kind=dk at HD hk
 generalize d.n=dn at HD
 generalize d.items.length=il at HD
 generalize d.names.length=nl at HD
 generalize (⟨d.s.toArray⟩:ByteArray)=ds at HD
 have hk2:(dk != 5)=true:=by rw[bne_iff_ne]; exact hk
 go_enter Tryz.func214,Tryz.ntmps214
 go_wp2_with (go_at_call 215; refine Calls.mono HD.out ?_; rintro e w' ⟨⟨ia,icap,na,ncap,rfl⟩,hF,hFA⟩; have HFA:=(show Hid _ from hFA); have hc0:=fun o=>(hFA o).facts.1.2.2.1; have hc1:=fun o=>(hFA o).facts.1.2.2.2; have hf0:=fun o=>(hFA o).facts.2.1; have hf1:=fun o=>(hFA o).facts.2.2; clear hF hFA)
 exact qqr (g:=w.heap.size+1) Tryz.results214 rfl rfl rfl (heap_setCell_same _ _ _ _ _ _ (heap_setCell_same _ _ _ _ _ _ (HFA.out _).res)) rfl ⟨rfl,((HFA.out _).below.setCell (p:=⟨w.heap.size+1,0,none⟩) (Nat.le_succ _) _).setCell (p:=⟨w.heap.size+1,1,none⟩) (Nat.le_succ _) _⟩
structure FdAt (w W:World) (g:Nat) (ao:Option Addr) (n cap k:Nat) (ia:Option Addr) (icap:Nat) (na:Option Addr) (ncap:Nat) (items:List Int) (names:List (List UInt8)):Prop where
 fw:FwAt w W ao n cap k
 c0:W.cell? ⟨g,0,none⟩=some (.int .i64 5)
 c3:W.cell? ⟨g,3,none⟩=some (.slice ia items.length icap)
 c4:W.cell? ⟨g,4,none⟩=some (.slice na names.length ncap)
 len:names.length≤maxLen
 it:∀ j x,items[j]?=some x→∃ b,ia=some ⟨b,0,none⟩∧W.cell? ⟨b,j,none⟩=some (.int .i64 x)
 nm:∀ j x,names[j]?=some x→∃ b,na=some ⟨b,0,none⟩∧W.cell? ⟨b,j,none⟩=some (bs x)
theorem q02 (name:List UInt8):∀(ns:List (List UInt8)) (is:List Int) (i:Nat) (a:List UInt8) (x:Int),ns[i]?=some a→is[i]?=some x→Pl.qjh name (ns.drop i) (is.drop i)=if a=name then some x else Pl.qjh name (ns.drop (i+1)) (is.drop (i+1)):=by
 intro ns is i a x h1 h2
 obtain⟨l1,e1⟩:=List.getElem?_eq_some_iff.1 h1
 obtain⟨l2,e2⟩:=List.getElem?_eq_some_iff.1 h2
 rw[List.drop_eq_getElem_cons l1,List.drop_eq_getElem_cons l2,e1,e2]
 rfl
theorem qyp (name:List UInt8) (ns:List (List UInt8)) (is:List Int) (i:Nat) (h:ns.length≤i∨is.length≤i):Pl.qjh name (ns.drop i) (is.drop i)=none:=by
 rcases h with h | h
 ·rw[List.drop_eq_nil_of_le h]; cases is.drop i<;>rfl
 ·rw[List.drop_eq_nil_of_le h]; cases ns.drop i<;>rfl
set_option maxRecDepth 100000 in
set_option maxHeartbeats 3200000 in
theorem q4e (ao:Option Addr) (n cap k:Nat) (name:ByteArray) (d:Pl.Dt) (w:World) (hk:d.kind=5)
  (hD:Calls Tryz.prog 215 #[.agg #[.slice ao n cap,.int .i64 k]] (fw w ao n cap k) fun e w'=>(∃ v,e=.returned v∧qkv w.heap.size (fw w ao n cap k) d v)∧Below (fw w ao n cap k).heap.size (fw w ao n cap k) w') :
  Calls Tryz.prog 214 #[.agg #[.slice ao n cap,.int .i64 k],.string name] w fun e w'=>e=.returned (qps (.slice ao n cap) ((Pl.qjh name.data.toList d.names d.items).map (Pl.qc9 k)))∧Below w.heap.size w w':=by
 have HD:Hid (Calls Tryz.prog 215 #[.agg #[.slice ao n cap,.int .i64 k]] (fw w ao n cap k) fun e w'=>(∃ ia icap na ncap,e=.returned (.agg #[.int .i64 5,.int .i64 d.n,bs d.s,.slice ia d.items.length icap,.slice na d.names.length ncap])∧FdAt w (w'.alloc (.cells #[.int .i64 5,.int .i64 d.n,bs d.s,.slice ia d.items.length icap,.slice na d.names.length ncap] 67)) w'.heap.size ao n cap k ia icap na ncap d.items d.names)):=hD.mono (by
  rintro e w' ⟨⟨v,rfl,hv⟩,hb⟩
  obtain⟨ia,icap,na,ncap,rfl,hI,hN⟩:=qgi hv
  have hF:=(qhy w ao n cap k).below' (qhy w ao n cap k).size hb
  rw[hk]
  refine⟨ia,icap,na,ncap,rfl,?_⟩
  have hb2:Below (fw w ao n cap k).heap.size (fw w ao n cap k) (w'.alloc (.cells #[.int .i64 5,.int .i64 d.n,bs d.s,.slice ia d.items.length icap,.slice na d.names.length ncap] 67)):=hb.alloc hb.size _
  have hc:=qaa (heap_alloc_new w' (.cells #[.int .i64 5,.int .i64 d.n,bs d.s,.slice ia d.items.length icap,.slice na d.names.length ncap] 67))
  have hle:=(qhy w ao n cap k).size
  refine⟨hF.below' hF.size ((Below.refl _ _).alloc (Nat.le_refl _) _),hc 0 _ rfl,hc 3 _ rfl,hc 4 _ rfl,by obtain⟨_,_,_,hl,_⟩:=hN; simpa using hl,fun j x hj=>?_,fun j x hj=>?_⟩
  ·obtain⟨ao',cap',he,_,hx⟩:=hI
   obtain⟨b,h1,h2,h3⟩:=hx (fun e=>by have:=List.map_eq_nil_iff.1 e; rw[this]at hj; cases hj)
   simp only[Value.slice.injEq]at he
   exact⟨b,he.1.trans h1,(hb2.cell (p:=⟨b,j,none⟩) (by show b<_; omega)).trans (h3 j _ (by rw[List.getElem?_map,hj]; rfl))⟩
  ·obtain⟨ao',cap',he,_,hx⟩:=hN
   obtain⟨b,h1,h2,h3⟩:=hx (fun e=>by have:=List.map_eq_nil_iff.1 e; rw[this]at hj; cases hj)
   simp only[Value.slice.injEq]at he
   exact⟨b,he.1.trans h1,(hb2.cell (p:=⟨b,j,none⟩) (by show b<_; omega)).trans (h3 j _ (by rw[List.getElem?_map,hj]; rfl))⟩)
 clear hD hk
 unfold fw at HD
 unfold bs at HD
 generalize (⟨d.s.toArray⟩:ByteArray)=ds at HD
 generalize d.n=dn at HD
 generalize d.items=items at HD ⊢
 generalize d.names=names at HD ⊢
 obtain⟨R,HR⟩:∃ R,Hid (Pl.qjh name.data.toList names items=R):=⟨_,rfl⟩
 rw[HR.out]
 go_enter Tryz.func214,Tryz.ntmps214
 go_wp2_with (go_at_call 215; refine Calls.mono HD.out ?_; rintro e w' ⟨ia,icap,na,ncap,rfl,hF⟩; have HF:=(show Hid _ from hF); have hc0:=hF.c0; have hc3:=hF.c3; have hc4:=hF.c4; clear hF)
 generalize w'.alloc _=W at HF hc0 hc3 hc4 ⊢
 generalize w'.heap.size=g at HF hc0 hc3 hc4 ⊢
 have hmi:(min (names.length:Int) (items.length:Int))≤names.length∧(min (names.length:Int) (items.length:Int))≤items.length∧(min (names.length:Int) (items.length:Int)=names.length∨min (names.length:Int) (items.length:Int)=items.length):=by omega
 obtain⟨mi,hmm⟩:∃ mi:Nat,(min (names.length:Int) (items.length:Int))=(mi:Int):=⟨min names.length items.length,by omega⟩
 rw[hmm]at hmi
 simp only[hmm]
 clear hmm
 go_loopw [21] (fun i wr=>∃ j:Nat,i=.int .i64 j∧wr=W∧j≤mi∧Hid (Pl.qjh name.data.toList (names.drop j) (items.drop j)=R)) (fun i _=>mi - (intOf i).toNat)
 case atStart=>exact⟨0,rfl,rfl,Nat.zero_le _,HR.out⟩
 case round=>
  obtain⟨j,rfl,rfl,hj,HJ⟩:=hrel
  by_cases hlt:(j:Int)<(mi:Int)
  rotate_left
  ·have HE:Hid (R=none):=by
    show _=_
    rw[← HJ.out]
    exact qyp _ _ _ _ (by omega)
   have hres:=HF.out.fw.facts
   obtain⟨⟨_,_,r0,r1⟩,f0,f1⟩:=hres
   go_wp2_with fail
   rw[HE.out]
   exact qqr (g:=w.heap.size+1) Tryz.results214 rfl rfl rfl (heap_setCell_same _ _ _ _ _ _ (heap_setCell_same _ _ _ _ _ _ HF.out.fw.res)) rfl ⟨rfl,(HF.out.fw.below.setCell (p:=⟨w.heap.size+1,0,none⟩) (Nat.le_succ _) _).setCell (p:=⟨w.heap.size+1,1,none⟩) (Nat.le_succ _) _⟩
  ·have hjn:(j:Int)<(names.length:Int):=by omega
   have hji:(j:Int)<(items.length:Int):=by omega
   have hxn:names[j]?=some names[j]:=List.getElem?_eq_getElem (by omega)
   have hxi:items[j]?=some items[j]:=List.getElem?_eq_getElem (by omega)
   generalize names[j]=a at hxn
   generalize items[j]=x at hxi
   obtain⟨bn,rfl,hcn⟩:=HF.out.nm j a hxn
   obtain⟨bi,rfl,hci⟩:=HF.out.it j x hxi
   have HS:=(show Hid _ from q02 name.data.toList names items j a x hxn hxi)
   have hres:=HF.out.fw.facts
   obtain⟨⟨p0,p1,r0,r1⟩,f0,f1⟩:=hres
   have hjj:(0:Int)≤(j:Int):=by omega
   unfold bs at hcn
   by_cases ha:a=name.data.toList
   ·have hq:((⟨a.toArray⟩:ByteArray).toList==name.toList)=true:=by
     rw[beq_iff_eq,ByteArray.toList_eq,ByteArray.toList_eq,ha]
    have HR2:Hid (R=some x):=by
     show _=_
     have:=HS.out
     rw[if_pos ha,HJ.out]at this
     exact this
    obtain⟨ao',n',cap',k',HV⟩:∃ ao' n' cap' k',Hid (qd9 (.slice ao n cap) (Pl.qc9 k x)=.agg #[.slice ao' n' cap',.int .i64 k']):=by
     cases Pl.qc9 k x with
     | none=>exact⟨_,_,_,_,rfl⟩
     | some m=>exact⟨_,_,_,_,rfl⟩
    have HI:=(show Hid _ from fun w=>qw4 ao n cap k x w)
    rw[HV.out]at HI
    generalize (⟨a.toArray⟩:ByteArray)=ab at hcn hq
    clear HS HJ ha hxn hxi
    go_wp2_with fail
    go_region_with (go_at_call 219; refine Calls.mono (HI.out _) ?_; rintro e w'' ⟨rfl,hb⟩; have hF2:=FwAt.below' (FwAt.drew HF.out.fw) (FwAt.size HF.out.fw) hb; obtain⟨⟨_,_,q0,q1⟩,g0,g1⟩:=hF2.facts; have HF2:=(show Hid _ from hF2); clear hF2 hb)
    all_goals
     go_wp2_with fail
     rw[HR2.out]
     refine qqr (g:=w.heap.size+1) Tryz.results214 rfl rfl rfl (heap_setCell_same _ _ _ _ _ _ (heap_setCell_same _ _ _ _ _ _ HF2.out.res)) rfl ⟨?_,(HF2.out.below.setCell (p:=⟨w.heap.size+1,0,none⟩) (Nat.le_succ _) _).setCell (p:=⟨w.heap.size+1,1,none⟩) (Nat.le_succ _) _⟩
     show _=Ending.returned (.tuple #[qd9 (.slice ao n cap) (Pl.qc9 k x),.bool true])
     rw[HV.out]
     rfl
   ·have hq:((⟨a.toArray⟩:ByteArray).toList==name.toList)=false:=by
     rw[beq_eq_false_iff_ne]
     intro e
     rw[ByteArray.toList_eq,ByteArray.toList_eq]at e
     exact ha (by simpa using e)
    have HJ2:Hid (Pl.qjh name.data.toList (names.drop (j+1)) (items.drop (j+1))=R):=by
     show _=_
     have:=HS.out
     rw[if_neg ha,HJ.out]at this
     exact this.symm
    have hw1:(j:Int)+1≤9223372036854775807:=by have:=HF.out.len; unfold maxLen at this; omega
    generalize (⟨a.toArray⟩:ByteArray)=ab at hcn hq
    clear HS ha hxn hxi
    go_wp2_with fail
    go_roundw
    case rel=>exact⟨j+1,by go_num,trivial,by omega,HJ2⟩
    case measure=>simp[intOf]; omega
theorem qla.up {B B':Nat} {w:World} {v:Value} {xs:List Value} (h:qla B w v xs) (hB:B≤B'):qla B' w v xs:=by
 obtain⟨ao,cap,hv,hl,hx⟩:=h
 refine⟨ao,cap,hv,hl,fun hne=>?_⟩
 obtain⟨k,h1,h2,h3⟩:=hx hne
 exact⟨k,h1,by omega,h3⟩
theorem qkv.up {B B':Nat} {w:World} {d:Pl.Dt} {v:Value} (h:qkv B w d v) (hB:B≤B'):qkv B' w d v:=by
 obtain⟨iv,nv,hv,h1,h2⟩:=h
 exact⟨iv,nv,hv,h1.up hB,h2.up hB⟩
def pcA (dv:Value):Pl.Pc→Value
 | none=>.slice none 0 0
 | some _=>dv
def pcI:Pl.Pc→Nat
 | none=>0
 | some k=>k
theorem qcy (dv:Value) (p:Pl.Pc):qd9 dv p=.agg #[pcA dv p,.int .i64 (pcI p)]:=by cases p<;>rfl
theorem qfu {B:Nat} {w:World} {dv:Value} {D:List Pl.Dt} (h:DsAt B w dv D) (p:Pl.Pc):∃ ao n cap,pcA dv p=.slice ao n cap:=by
 cases p with
 | none=>exact⟨_,_,_,rfl⟩
 | some k=>obtain⟨ao,cap,hv,_⟩:=h; exact⟨_,_,_,hv⟩
theorem qtk (dv:Value) (D:List Pl.Dt) (p:Pl.Pc) (name:ByteArray) (B:Nat) (w:World) (hB:B≤w.heap.size) (hD:DsAt B w dv D) :
  Calls Tryz.prog 214 #[qd9 dv p,.string name] w fun e w'=>e=.returned (qps dv (Pl.ql3 D p name.data.toList))∧Below w.heap.size w w':=by
 obtain⟨ao,n,cap,hA⟩:=qfu hD p
 have hdat:=qkr dv D p B (fw w ao n cap (pcI p)) (Nat.le_trans hB (qhy w ao n cap (pcI p)).below.size) (hD.below ((qhy w ao n cap (pcI p)).below.mono hB))
 rw[qcy,hA]at hdat ⊢
 have hdat2:=hdat.mono (fun e w' h=>(⟨h.1.elim fun v hv=>⟨v,hv.1,hv.2.up hB⟩,h.2⟩:(∃ v,e=.returned v∧qkv w.heap.size (fw w ao n cap (pcI p)) (Pl.qbb D p) v)∧Below (fw w ao n cap (pcI p)).heap.size (fw w ao n cap (pcI p)) w'))
 by_cases hk:(Pl.qbb D p).kind=5
 ·cases p with
  | none=>exact absurd (show (0:Int)=5 from hk) (by decide)
  | some k=>
    have e:Pl.ql3 D (some k) name.data.toList=(Pl.qjh name.data.toList (Pl.qbb D (some k)).names (Pl.qbb D (some k)).items).map (Pl.qc9 k):=by
     show (if(Pl.qbb D (some k)).kind≠5 then none else _)=_
     rw[if_neg (by simp[hk])]
    rw[e]
    have hdv:dv=.slice ao n cap:=hA
    rw[hdv]
    exact q4e ao n cap k name _ w hk hdat2
 ·have e:Pl.ql3 D p name.data.toList=none:=by
   cases p with
   | none=>rfl
   | some k=>
     show (if(Pl.qbb D (some k)).kind≠5 then none else _)=_
     rw[if_pos hk]
  rw[e]
  exact q1y ao n cap (pcI p) dv name _ w hk hdat2
theorem q1g (dv:Value) (D:List Pl.Dt) (p:Pl.Pc) (B:Nat) (w:World) (hB:B≤w.heap.size) (hD:DsAt B w dv D) :
  Calls Tryz.prog 177 #[qd9 dv p] w fun e w'=>e=.returned (.bool (Pl.qoz (Pl.qbb D p)))∧Below w.heap.size w w':=by
 obtain⟨ao,n,cap,hA⟩:=qfu hD p
 refine q1f _ ao n cap (pcI p) (by rw[qcy,hA]) _ B w fun o=>?_
 exact qkr dv D p B (w.alloc o) (by rw[qbd]; omega) (hD.below ((Below.refl _ _).alloc hB _))
theorem q2x (dv:Value) (D:List Pl.Dt) (p:Pl.Pc) (B:Nat) (w:World) (hB:B≤w.heap.size) (hD:DsAt B w dv D) (hn:∀ d∈D,-9223372036854775808≤d.n∧d.n≤9223372036854775807) (hP:quj w) (hg:14<B) :
  Calls Tryz.prog 176 #[qd9 dv p] w fun e w'=>e=.returned (bs (Pl.qcf (Pl.qbb D p)))∧Below w.heap.size w w':=by
 obtain⟨ao,n,cap,hA⟩:=qfu hD p
 have hb:-9223372036854775808≤(Pl.qbb D p).n∧(Pl.qbb D p).n≤9223372036854775807:=by
  cases p with
  | none=>exact⟨show (-9223372036854775808:Int)≤0 by decide,show (0:Int)≤9223372036854775807 by decide⟩
  | some k=>
    by_cases hk:k<D.length
    ·have e:Pl.qbb D (some k)=D[k]:=by simp[Pl.qbb,List.getD,List.getElem?_eq_getElem hk]
     rw[e]
     exact hn _ (List.getElem_mem hk)
    ·have e:Pl.qbb D (some k)=Pl.Dt.null:=by simp[Pl.qbb,List.getD,List.getElem?_eq_none (Nat.le_of_not_lt hk)]
     rw[e]
     exact⟨by decide,by decide⟩
 refine q2w _ ao n cap (pcI p) (by rw[qcy,hA]) _ B w hb.1 hb.2 (fun w' h=>hP.below h (by omega)) fun o=>?_
 exact qkr dv D p B (w.alloc o) (by rw[qbd]; omega) (hD.below ((Below.refl _ _).alloc hB _))
def qui (w:World) (dv v:Value) (K:List Pl.Pc):Prop:=∃ so cap,v=.slice so K.length cap∧K.length≤maxLen∧(K≠[]→∃ b,so=some ⟨b,0,none⟩∧b<w.heap.size∧∀ i p,K.reverse[i]?=some p→w.cell? ⟨b,i*2,none⟩=some (pcA dv p)∧w.cell? ⟨b,i*2+1,none⟩=some (.int .i64 (pcI p)))
theorem qui.below {w w':World} {dv v:Value} {K:List Pl.Pc} {B:Nat} (h:qui w dv v K) (hB:w.heap.size≤B) (hb:Below B w w'):qui w' dv v K:=by
 obtain⟨so,cap,hv,hl,hx⟩:=h
 refine⟨so,cap,hv,hl,fun hne=>?_⟩
 obtain⟨b,h1,h2,h3⟩:=hx hne
 refine⟨b,h1,Nat.lt_of_lt_of_le h2 hb.size,fun i p hp=>?_⟩
 obtain⟨k1,k2⟩:=h3 i p hp
 exact⟨(hb.cell (p:=⟨b,i*2,none⟩) (Nat.lt_of_lt_of_le h2 hB)).trans k1,(hb.cell (p:=⟨b,i*2+1,none⟩) (Nat.lt_of_lt_of_le h2 hB)).trans k2⟩
end Go.Proofs.YtfkhljmiehdgmaaGreatDoor
namespace Go.Proofs.YtfkhljmiehdgmaaGreatDoor
open Go.RowKit Go.Lib
def qhn (dv:Value) (K:List Pl.Pc):List Value:=K.reverse.flatMap fun p=>[pcA dv p,.int .i64 (pcI p)]
def qge (H:List (Nat×Nat×Int)):List Value:=H.flatMap fun h=>[.int .i64 (h.1:Nat),.int .i64 (h.2.1:Nat),.int .i64 h.2.2]
theorem qie (dv:Value) (p:Pl.Pc) (K:List Pl.Pc):qhn dv (p::K)=qhn dv K++[pcA dv p,.int .i64 (pcI p)]:=by simp[qhn]
theorem qm6 (dv:Value):∀ K:List Pl.Pc,(qhn dv K).length=K.length*2
 | []=>rfl
 | p::K=>by rw[qie,List.length_append,qm6 dv K]; simp; omega
theorem qtc (H:List (Nat×Nat×Int)) (h:Nat×Nat×Int):qge (H++[h])=qge H++[.int .i64 (h.1:Nat),.int .i64 (h.2.1:Nat),.int .i64 h.2.2]:=by simp[qge]
theorem q0w (f h:Pl.Pc→Value):∀(L:List Pl.Pc) (i:Nat) (p:Pl.Pc),L[i]?=some p→(L.flatMap fun p=>[f p,h p])[i*2]?=some (f p)∧(L.flatMap fun p=>[f p,h p])[i*2+1]?=some (h p)
 | [],i,p,hp=>by cases hp
 | q::L,0,p,hp=>by
   obtain rfl:q=p:=by simpa using hp
   exact⟨rfl,rfl⟩
 | q::L,i+1,p,hp=>by
   have ih:=q0w f h L i p (by simpa using hp)
   have e:(List.flatMap (fun p=>[f p,h p]) (q::L))=f q::h q::L.flatMap fun p=>[f p,h p]:=rfl
   rw[e,show (i+1)*2=i*2+2 by omega,show i*2+2+1=(i*2+1)+2 by omega]
   exact ih
structure WrV (w:World) (B g:Nat) (vv dv:Value) (e:Pl.Ev) (K:List Pl.Pc) (o:Pl.Wt) (sv hv p v:Value):Prop where
 wb:WbAt w B g vv (.int .i64 e.depth) (.int .i64 e.room) sv (.int .i64 o.steps) hv o.out p v
 st:w.ownsRow B 147 2 sv K.length (qhn dv K)
 ho:w.ownsRow B 55 3 hv o.holes.length (qge o.holes)
def WrAt (w:World) (B g:Nat) (vv dv:Value) (e:Pl.Ev) (K:List Pl.Pc) (o:Pl.Wt):Prop:=∃ sv hv p v,WrV w B g vv dv e K o sv hv p v
def Ow (g:Nat) (w:World) (k:Nat):Prop:=k=g∨(∃ sv,w.cell? ⟨g,3,none⟩=some sv∧sv.ownBlock=some k)∨(∃ hv,w.cell? ⟨g,7,none⟩=some hv∧hv.ownBlock=some k)
structure Rn (B g:Nat) (w w':World):Prop where
 below:Below B w w'
 kept:∀ k o,w.heap[k]?=some o→¬ Ow g w k→(∀ c fz,o≠.cells c 5 fz)→w'.heap[k]?=some o
 fresh:∀ k,Ow g w' k→Ow g w k∨w.heap.size≤k
theorem Rn.refl (B g:Nat) (w:World):Rn B g w w:=⟨Below.refl _ _,fun _ _ h _ _=>h,fun _ h=>.inl h⟩
theorem Rn.trans {B g:Nat} {a b c:World} (h:Rn B g a b) (k:Rn B g b c):Rn B g a c:=by
 refine⟨h.below.trans k.below,fun i ob hi hn ho=>?_,fun i hi=>?_⟩
 ·refine k.kept i ob (h.kept i ob hi hn ho) (fun hx=>?_) ho
  rcases h.fresh i hx with h1 | h1
  ·exact hn h1
  ·have:=(Array.getElem?_eq_some_iff.1 hi).1
   omega
 ·rcases k.fresh i hi with h1 | h1
  ·exact h.fresh i h1
  ·exact .inr (Nat.le_trans h.below.size h1)
theorem qih {g:Nat} {w w':World} (h:w'.heap[g]?=w.heap[g]?) (k:Nat):Ow g w' k↔Ow g w k:=by
 unfold Ow
 rw[World.cell?_of_block (a:=⟨g,3,none⟩) h,World.cell?_of_block (a:=⟨g,7,none⟩) h]
theorem Rn.of_below {B g:Nat} {w w':World} (h:Below w.heap.size w w') (hB:B≤w.heap.size) (hg:g<w.heap.size):Rn B g w w':=
 ⟨h.mono hB,fun k _ hk _ _=>(h.block k (Array.getElem?_eq_some_iff.1 hk).1).trans hk,fun k hk=>.inl ((qih (h.block g hg) k).1 hk)⟩
theorem Rn.of_wb {B g:Nat} {w w':World} {a0 a1 a2 a3 a4 a4' a7 p v p' v':Value} {l l':List UInt8} (h:WbAt w B g a0 a1 a2 a3 a4 a7 l p v) (h':WbAt w' B g a0 a1 a2 a3 a4' a7 l' p' v') (hb:Below B w w') (hk:OthersKept 5 (some g) w w'):Rn B g w w':=by
 refine⟨hb,fun k ob hk1 hn ho=>hk k ob hk1 (fun e=>hn (.inl (Option.some.inj e))) ho,fun k hk1=>.inl ?_⟩
 have c:=h.all
 have c':=h'.all
 rcases hk1 with rfl | ⟨sv,h1,h2⟩ | ⟨hv,h1,h2⟩
 ·exact .inl rfl
 ·rw[c'.2.2.2.1]at h1
  exact .inr (.inl ⟨sv,c.2.2.2.1.trans h1,h2⟩)
 ·rw[c'.2.2.2.2.2.1]at h1
  exact .inr (.inr ⟨hv,c.2.2.2.2.2.1.trans h1,h2⟩)
theorem qqn {B g n k:Nat} {T:TypeId} {w w':World} {x:Value} {xs:List Value} (h:w.ownsRow B T k x n xs) (hT:T≠5) {cs:Array Value} {U:TypeId} {fz:Nat×Nat} (hg:w.heap[g]?=some (.cells cs U fz)) (hTU:T≠U) (hk:OthersKept 5 (some g) w w'):w'.ownsRow B T k x n xs:=by
 refine qah h fun b hb=>?_
 obtain⟨cur,hc⟩:=qae h b hb
 rw[hc]
 refine hk b _ hc (fun e=>?_) (fun c fz' e=>?_)
 ·obtain rfl:=Option.some.inj e
  rw[hg]at hc
  injection hc with hc
  injection hc with _ h2 _
  exact hTU h2.symm
 ·injection e with _ h2 _
  exact hT h2
theorem WrV.turn {w w':World} {B g:Nat} {vv dv:Value} {e:Pl.Ev} {K:List Pl.Pc} {o o':Pl.Wt} {sv hv p v p' v':Value} (h:WrV w B g vv dv e K o sv hv p v)
  (hw:WbAt w' B g vv (.int .i64 e.depth) (.int .i64 e.room) sv (.int .i64 o'.steps) hv o'.out p' v') (hk:OthersKept 5 (some g) w w') (ho:o'.holes=o.holes):WrV w' B g vv dv e K o' sv hv p' v':=by
 refine⟨hw,qqn h.st (by decide) h.wb.blk (by decide) hk,?_⟩
 rw[ho]
 exact qqn h.ho (by decide) h.wb.blk (by decide) hk
theorem WrV.below {w w':World} {B g:Nat} {vv dv:Value} {e:Pl.Ev} {K:List Pl.Pc} {o:Pl.Wt} {sv hv p v:Value} (h:WrV w B g vv dv e K o sv hv p v) (hb:Below w.heap.size w w'):WrV w' B g vv dv e K o sv hv p v:=by
 have hg:=(Array.getElem?_eq_some_iff.1 h.wb.blk).1
 refine⟨⟨h.wb.le,(hb.block g hg).trans h.wb.blk,?_,h.wb.adr,h.wb.nil⟩,qah h.st fun b hb1=>?_,qah h.ho fun b hb1=>?_⟩
 ·exact h.wb.own.kept (row:=none) ⟨hb.os,hb.tape,hb.output,hb.size,fun k hk _=>hb.block k hk⟩ (by cases v.ownBlock with | none=>exact .inl rfl | some k=>exact .inr (by simp))
 ·obtain⟨cur,hc⟩:=qae h.st b hb1
  exact hb.block b (Array.getElem?_eq_some_iff.1 hc).1
 ·obtain⟨cur,hc⟩:=qae h.ho b hb1
  exact hb.block b (Array.getElem?_eq_some_iff.1 hc).1
theorem WrAt.below {w w':World} {B g:Nat} {vv dv:Value} {e:Pl.Ev} {K:List Pl.Pc} {o:Pl.Wt} (h:WrAt w B g vv dv e K o) (hb:Below w.heap.size w w'):WrAt w' B g vv dv e K o:=by
 obtain⟨sv,hv,p,v,h⟩:=h
 exact⟨sv,hv,p,v,h.below hb⟩
theorem WrAt.lt {w:World} {B g:Nat} {vv dv:Value} {e:Pl.Ev} {K:List Pl.Pc} {o:Pl.Wt} (h:WrAt w B g vv dv e K o):B≤g∧g<w.heap.size:=by
 obtain⟨sv,hv,p,v,h⟩:=h
 exact⟨h.wb.le,(Array.getElem?_eq_some_iff.1 h.wb.blk).1⟩
theorem WrV.stk {w:World} {B g:Nat} {vv dv:Value} {e:Pl.Ev} {K:List Pl.Pc} {o:Pl.Wt} {sv hv p v:Value} (h:WrV w B g vv dv e K o sv hv p v):qui w dv sv K:=by
 rcases h.st.2 with ⟨h1,h2⟩ | ⟨b,cap,cur,h1,h2,h3,h4,h5,h6,h7⟩
 ·have hK:K=[]:=List.eq_nil_of_length_eq_zero h2
  exact⟨none,0,by rw[h1,hK]; rfl,by rw[hK]; exact Nat.zero_le _,fun hne=>absurd hK hne⟩
 ·refine⟨_,cap,h1,by omega,fun _=>⟨b,rfl,(Array.getElem?_eq_some_iff.1 h3).1,fun i q hq=>?_⟩⟩
  have hx:=q0w (pcA dv) (fun p=>.int .i64 (pcI p)) K.reverse i q hq
  have hc:∀(j:Nat) (x:Value),(qhn dv K)[j]?=some x→w.cell? ⟨b,j,none⟩=some x:=fun j x hx=>by
   have h8:=h.st.cells (g:=b) (by rw[h1]; rfl) j x hx
   rwa [show (⟨b,0,none⟩:Addr).add j=⟨b,j,none⟩ by simp only[Addr.add,Nat.zero_add]; split<;>simp_all]at h8
  exact⟨hc _ _ hx.1,hc _ _ hx.2⟩
theorem WrAt.own_lt {w:World} {B g:Nat} {vv dv:Value} {e:Pl.Ev} {K:List Pl.Pc} {o:Pl.Wt} (h:WrAt w B g vv dv e K o) {k:Nat} (hk:Ow g w k):k<w.heap.size:=by
 obtain⟨sv,hv,p,bv,hq⟩:=h
 have hall:=hq.wb.all
 rcases hk with rfl | ⟨s2,h5,h6⟩ | ⟨s2,h5,h6⟩
 ·exact(Array.getElem?_eq_some_iff.1 hq.wb.blk).1
 ·rw[hall.2.2.2.1]at h5
  obtain rfl:=Option.some.inj h5
  obtain⟨cur,h7⟩:=qae hq.st _ h6
  exact(Array.getElem?_eq_some_iff.1 h7).1
 ·rw[hall.2.2.2.2.2.1]at h5
  obtain rfl:=Option.some.inj h5
  obtain⟨cur,h7⟩:=qae hq.ho _ h6
  exact(Array.getElem?_eq_some_iff.1 h7).1
theorem WrAt.keepsOthers {w w':World} {B g:Nat} {vv dv:Value} {e:Pl.Ev} {K:List Pl.Pc} {o:Pl.Wt} (h:WrAt w B g vv dv e K o) (hr:Rn B g w w'):KeepsOthers w w':=by
 obtain⟨sv,hv,p,v,h⟩:=h
 refine⟨hr.below.size,fun k ob hk hc=>hr.kept k ob hk (fun hx=>?_) (fun c fz e=>?_)⟩
 ·have c:=h.wb.all
  rcases hx with rfl | ⟨sv',h1,h2⟩ | ⟨hv',h1,h2⟩
  ·rw[h.wb.blk]at hk; cases hk; cases hc
  ·rw[c.2.2.2.1]at h1
   obtain rfl:=Option.some.inj h1
   obtain⟨cur,h3⟩:=qae h.st k h2
   rw[h3]at hk; cases hk; cases hc
  ·rw[c.2.2.2.2.2.1]at h1
   obtain rfl:=Option.some.inj h1
   obtain⟨cur,h3⟩:=qae h.ho k h2
   rw[h3]at hk; cases hk; cases hc
 ·subst e; cases hc
end Go.Proofs.YtfkhljmiehdgmaaGreatDoor
namespace Go.Proofs.YtfkhljmiehdgmaaGreatDoor.Pl
open Go.Lib
def Ev.Small (e:Ev) (M:Nat):Prop:=(∀ v p,p∈e.parts v→p.text.length≤M)∧∀ azs p,(qan azs (qcf (qbb e.D p))).length≤M
structure Fin (e:Ev) (M:Nat) (o:Wt):Prop where
 steps:o.steps≤5000
 out:o.out.length≤o.steps*M
 holes:o.holes.length≤o.steps
 room:e.room<0∨(o.out.length:Int)≤e.room
structure FinS (e:Ev) (M:Nat) (o:Wt):Prop where
 steps:o.steps≤5000
 out:o.out.length+M≤o.steps*M
 holes:o.holes.length+1≤o.steps
 room:e.room<0∨(o.out.length:Int)≤e.room
theorem FinS.fin {e:Ev} {M:Nat} {o:Wt} (h:FinS e M o):Fin e M o:=⟨h.steps,by have:=h.out; omega,by have:=h.holes; omega,h.room⟩
theorem Fin.step {e:Ev} {M:Nat} {o:Wt} (h:Fin e M o) (hs:o.steps≠5000):FinS e M { o with steps:=o.steps+1 }:=
 ⟨by show o.steps+1≤5000; have:=h.steps; omega,by show o.out.length+M≤(o.steps+1)*M; rw[Nat.add_mul]; have:=h.out; omega,by show o.holes.length+1≤o.steps+1; have:=h.holes; omega,h.room⟩
theorem q3c {e:Ev} {o:Wt} (h:e.room<0∨(o.out.length:Int)≤e.room) (t:List UInt8):e.room<0∨((e.put o t).1.out.length:Int)≤e.room:=by
 unfold Ev.put
 rcases h with h2 | h2
 ·exact .inl h2
 ·by_cases hn:e.room<0
  ·exact .inl hn
  ·right
   split
   ·simp only[List.length_append,List.length_take]; omega
   ·simp only[List.length_append]; omega
theorem q54 (e:Ev) (o:Wt) (t:List UInt8):(e.put o t).1.out.length≤o.out.length+t.length:=by
 unfold Ev.put
 split
 ·simp only[List.length_append,List.length_take]; omega
 ·simp only[List.length_append]; omega
theorem qif (e:Ev) (o:Wt) (t:List UInt8):(e.put o t).1.holes=o.holes:=by unfold Ev.put; split<;>rfl
theorem FinS.put {e:Ev} {M:Nat} {o:Wt} (h:FinS e M o) {t:List UInt8} (ht:t.length≤M):Fin e M (e.put o t).1:=by
 refine⟨by rw[qer]; exact h.steps,?_,by rw[qer,qif]; have:=h.holes; omega,q3c h.room t⟩
 rw[qer]
 have:=q54 e o t
 have:=h.out
 omega
theorem FinS.hole {e:Ev} {M:Nat} {o:Wt} (h:FinS e M o) (hM:e.Small M) (K:List Pc) (name:List UInt8) (azs:Int):Fin e M (e.hole K o name azs).1:=by
 unfold Ev.hole
 split
 ·exact h.fin
 ·have hp:=h.put (hM.2 azs (qds e.D K name))
  refine⟨hp.steps,hp.out,?_,hp.room⟩
  show (o.holes++[_]).length≤_
  rw[qer]
  simp only[List.length_append,List.length_cons,List.length_nil]
  exact h.holes
theorem qiy {e:Ev} {M:Nat} {go:Wt→Wt×Int} {o:Wt} (h:Fin e M o) (hgo:FinS e M { o with steps:=o.steps+1 }→Fin e M (go { o with steps:=o.steps+1 }).1):Fin e M (qc1 go o).1:=by
 unfold qc1
 split
 ·exact h
 ·exact hgo (h.step (by assumption))
theorem qpx {e:Ev} {M:Nat} {body:List Pc→Wt→Wt×Int} (hb:∀ K o,Fin e M o→Fin e M (body K o).1) (K:List Pc):∀(l:List Pc) (o:Wt),Fin e M o→Fin e M (qcj body K l o).1
 | [],o,h=>h
 | p::l,o,h=>by
   unfold qcj
   split
   ·exact hb _ _ h
   ·exact qpx hb K l _ (hb _ _ h)
theorem qm9 {e:Ev} {M:Nat} {body:List Pc→Wt→Wt×Int} (hb:∀ K o,Fin e M o→Fin e M (body K o).1) (K:List Pc) (kind:Nat) (name:List UInt8) (o:Wt) (h:Fin e M o):Fin e M (e.section body K kind name o).1:=by
 unfold Ev.section
 split
 ·exact h
 ·split
  ·exact hb K o h
  ·exact qpx hb K _ o h
theorem qvd {e:Ev} {M:Nat} (hM:e.Small M):∀(f v at' tz:Nat) (qac:Int) (K:List Pc) (o:Wt),Fin e M o→Fin e M (e.run f v at' tz qac K o).1:=by
 intro f
 induction f with
 | zero=>intro v at' tz qac K o h; exact h
 | succ f IH=>
   intro v at' tz qac K o h
   unfold Ev.run
   split
   ·exact h
   ·refine qiy h (fun h=>?_)
    generalize ({ o with steps:=o.steps+1 }:Wt)=o at h
    have hon:∀(r:Wt×Int) (next:Nat),Fin e M r.1→Fin e M (if r.2≠0 then r else e.run f v next tz qac K r.1).1:=by
     intro r next hr
     split
     ·exact hr
     ·exact IH v next tz qac K r.1 hr
    split
    ·exact h.fin
    ·rename_i p hp
     dsimp only
     split
     ·exact hon _ _ (h.put (hM.1 v p (List.mem_of_getElem? hp)))
     split
     ·exact hon _ _ (h.hole hM _ _ _)
     split
     ·exact hon _ _ (qm9 (fun K o h=>qiy h (fun h=>IH _ _ _ _ _ _ h.fin)) K _ _ o h.fin)
     split
     ·refine hon _ _ ?_
      split
      ·exact h.fin
      ·split
       ·exact h.fin
       ·exact IH _ _ _ _ _ _ h.fin
     ·exact hon (o,0) _ h.fin
structure Ev.Ok (e:Ev):Prop where
 src:∀(v:Nat) x,e.vis[v]?=some x→∃ s,e.S[x.1]?=some s∧x.2.length=s.parts.length
 mate:∀(v i:Nat) p,(e.parts v)[i]?=some p→p.kind=3∨p.kind=4→i<p.mate∧p.mate<(e.parts v).length
 mark:∀(v i:Nat) p,(e.parts v)[i]?=some p→p.kind=6→0≤(e.marks v).getD i 0∧(e.marks v).getD i 0<(e.vis.length:Nat)
 small:e.vis.length≤100000∧∀ v,(e.parts v).length≤100000
theorem Ev.Ok.len {e:Ev} (h:e.Ok) (v:Nat):(e.marks v).length=(e.parts v).length:=by
 unfold Ev.marks Ev.parts
 cases hx:e.vis[v]? with
 | none=>rfl
 | some x=>
   obtain⟨s,h1,h2⟩:=h.src v x hx
   simp only[h1]
   exact h2
end Go.Proofs.YtfkhljmiehdgmaaGreatDoor.Pl
