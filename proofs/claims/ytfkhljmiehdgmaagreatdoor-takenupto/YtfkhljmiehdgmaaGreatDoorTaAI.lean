/-
  Steps of the proof (texts laid together, blanks left out): ReM, Tabs, ReP.
-/
import Derived.RangeFuncNested
import Derived.RangeFuncBound
import Derived.RangeFuncCalls
import Derived.RangeFuncLeaves
import Derived.Shelf.Abstract
import Derived.Shelf.RegionOpen
import Derived.WalkKit
import Derived.OwnWalkIn
import Derived.TacticsInMore
import Derived.LoopNIn
import Derived.LoopIn
import Derived.Test.YtfkhljmiehdgmaaGreatDoorTaAH
import Derived.Test.YtfkhljmiehdgmaaGreatDoorTaAA
namespace Go.Proofs.YtfkhljmiehdgmaaGreatDoor
open Go.RowKit Go.Shelf
attribute [local go_sem] Oper.semAt_some
def PbAt (w:World) (pb:Nat) (ao:Option Addr) (n cap k:Nat):Prop:=w.heap[pb]?=some (.cells #[.slice ao n cap,.int .i64 k] 147 (0,0))
theorem PbAt.facts {w:World} {pb:Nat} {ao:Option Addr} {n cap k:Nat} (h:PbAt w pb ao n cap k):w.cell? ⟨pb,0,none⟩=some (.slice ao n cap)∧w.cell? ⟨pb,1,none⟩=some (.int .i64 k):=by
 have c:=qaa (show w.heap[pb]?=_ from h)
 exact⟨c 0 _ rfl,c 1 _ rfl⟩
def Kp (B pb:Nat) (w w':World):Prop:=Below B w w'∧w'.heap[pb]?=w.heap[pb]?
theorem Kp.refl (B pb:Nat) (w:World):Kp B pb w w:=⟨Below.refl _ _,rfl⟩
theorem Kp.trans {B pb:Nat} {a b c:World} (h:Kp B pb a b) (k:Kp B pb b c):Kp B pb a c:=⟨h.1.trans k.1,k.2.trans h.2⟩
theorem Kp.of_below {B pb:Nat} {w w':World} (h:Below w.heap.size w w') (hB:B≤w.heap.size) (hp:pb<w.heap.size):Kp B pb w w':=⟨h.mono hB,h.block _ hp⟩
set_option maxRecDepth 100000 in
set_option maxHeartbeats 1600000 in
theorem qzy (ao:Option Addr) (n cap k:Nat) (w:World) :
  Calls Tryz.prog 179 #[.agg #[.slice ao n cap,.int .i64 k]] w fun e w'=>e=.returned (.func (.func 218) #[] #[.pointer (some ⟨w.heap.size,0,none⟩)])∧w'=w.alloc (.cells #[.slice ao n cap,.int .i64 k] 147):=by
 have hmf:∀(fn:Fn) (first cap:Array Value) (w:World),(Instr.makeFunc fn first cap).run Tryz.prog w=.ok (.func fn first cap) w:=fun _ _ _ _=>rfl
 go_enter Tryz.func179,Tryz.ntmps179
 go_wp2
 go_ret
 exact⟨rfl,rfl⟩
structure TdAt (B:Nat) (w W:World) (g pb:Nat) (ao:Option Addr) (n cap k:Nat) (kind:Int) (ia:Option Addr) (icap:Nat) (items:List Int):Prop where
 kp:Below w.heap.size w W
 box:W.cell? ⟨pb,0,none⟩=some (.slice ao n cap)∧W.cell? ⟨pb,1,none⟩=some (.int .i64 k)
 c0:W.cell? ⟨g,0,none⟩=some (.int .i64 kind)
 c3:W.cell? ⟨g,3,none⟩=some (.slice ia items.length icap)
 it:∀ j x,items[j]?=some x→∃ b,ia=some ⟨b,0,none⟩∧b<B∧W.cell? ⟨b,j,none⟩=some (.int .i64 x)
 len:items.length≤maxLen
theorem qld (dv:Value) (D:List Pl.Dt) (p:Pl.Pc) (ao:Option Addr) (n cap:Nat) (hpv:qd9 dv p=.agg #[.slice ao n cap,.int .i64 (pcI p)]) (B pb:Nat) (w:World) (hB:B≤w.heap.size) (hD:DsAt B w dv D) (hP:PbAt w pb ao n cap (pcI p)) :
  Calls Tryz.prog 215 #[.agg #[.slice ao n cap,.int .i64 (pcI p)]] w fun e w'=>∃ ia icap na ncap,e=.returned (.agg #[.int .i64 (Pl.qbb D p).kind,.int .i64 (Pl.qbb D p).n,bs (Pl.qbb D p).s,.slice ia (Pl.qbb D p).items.length icap,.slice na (Pl.qbb D p).names.length ncap]) ∧
   TdAt B w (w'.alloc (.cells #[.int .i64 (Pl.qbb D p).kind,.int .i64 (Pl.qbb D p).n,bs (Pl.qbb D p).s,.slice ia (Pl.qbb D p).items.length icap,.slice na (Pl.qbb D p).names.length ncap] 67)) w'.heap.size pb ao n cap (pcI p) (Pl.qbb D p).kind ia icap (Pl.qbb D p).items:=by
 have h:=qkr dv D p B w hB hD
 rw[hpv]at h
 refine h.mono ?_
 rintro e w' ⟨⟨v,rfl,hv⟩,hb⟩
 obtain⟨ia,icap,na,ncap,rfl,hI,hN⟩:=qgi hv
 have hb2:=hb.alloc hb.size (.cells #[.int .i64 (Pl.qbb D p).kind,.int .i64 (Pl.qbb D p).n,bs (Pl.qbb D p).s,.slice ia (Pl.qbb D p).items.length icap,.slice na (Pl.qbb D p).names.length ncap] 67)
 have hc:=qaa (heap_alloc_new w' (.cells #[.int .i64 (Pl.qbb D p).kind,.int .i64 (Pl.qbb D p).n,bs (Pl.qbb D p).s,.slice ia (Pl.qbb D p).items.length icap,.slice na (Pl.qbb D p).names.length ncap] 67))
 have hlt:pb<w.heap.size:=(Array.getElem?_eq_some_iff.1 (show w.heap[pb]?=_ from hP)).1
 refine⟨ia,icap,na,ncap,rfl,hb2,PbAt.facts ((hb2.block _ hlt).trans hP),hc 0 _ rfl,hc 3 _ rfl,fun j x hj=>?_,by obtain⟨_,_,_,hl,_⟩:=hI; simpa using hl⟩
 obtain⟨ao',cap',he,_,hx⟩:=hI
 obtain⟨b,h1,h2,h3⟩:=hx (fun e=>by have:=List.map_eq_nil_iff.1 e; rw[this]at hj; cases hj)
 simp only[Value.slice.injEq]at he
 exact⟨b,he.1.trans h1,h2,(hb2.cell (p:=⟨b,j,none⟩) (by show b<_; omega)).trans (h3 j _ (by rw[List.getElem?_map,hj]; rfl))⟩
theorem qzx (D:List Pl.Dt) (p:Pl.Pc) (h:(Pl.qbb D p).kind≠4):Pl.qj9 D p=[p]:=by
 cases p with
 | none=>rfl
 | some k=>show (if _ then _ else _)=_; rw[if_pos h]
theorem qxm (D:List Pl.Dt) (p:Pl.Pc) (h:(Pl.qbb D p).kind=4):Pl.qj9 D p=(Pl.qbb D p).items.map (Pl.qc9 (pcI p)):=by
 cases p with
 | none=>exact absurd (show (0:Int)=4 from h) (by decide)
 | some k=>show (if _ then _ else _)=_; rw[if_neg (by simp[h])]; rfl
theorem qiw {β:Type} {B:Nat} {J:β→World→Prop} (h:AbidesFrom B J) {s:β} {w w':World} (hs:J s w) (hb:Below w.heap.size w w'):J s w':=
 h s w w' none hs ⟨hb.os,hb.tape,hb.output,hb.size,fun k hk _=>hb.block k hk⟩ (fun r e=>by cases e)
set_option maxRecDepth 100000 in
set_option maxHeartbeats 3200000 in
theorem qxn (dv:Value) (D:List Pl.Dt) (p:Pl.Pc) (ao:Option Addr) (m cap:Nat) (hpv:qd9 dv p=.agg #[.slice ao m cap,.int .i64 (pcI p)]) (B l pb n:Nat) (hn:1≤n) (J Jx:List Pl.Pc→World→Prop) (w:World) (hB:B≤w.heap.size) (hD:DsAt B w dv D) (hP:PbAt w pb ao m cap (pcI p)) (hJ:AbidesFrom w.heap.size J)
  (hk:(Pl.qbb D p).kind≠4)
  (hY:∀ pre x W,J pre W→pre.length<(Pl.qj9 D p).length→YieldAt Fence.wide (n - 1) Tryz.prog l #[qd9 dv x] W fun e W'=>(e=.returned (.bool true)∧J (pre++[x]) W'∧Kp B pb W W')∨(e=.returned (.bool false)∧Jx (pre++[x]) W')) (h0:J [] w) :
  CallsIn Fence.wide n Tryz.prog 218 #[.func (.yield l) #[] #[],.pointer (some ⟨pb,0,none⟩)] w fun e W'=>(∃ v,e=.returned v)∧((∃ ys,ys=Pl.qj9 D p∧J ys W')∨(∃ pre,pre <+: Pl.qj9 D p∧Jx pre W')):=by
 rw[qzx D p hk]at hY ⊢
 have HD:Hid (Calls Tryz.prog 215 #[.agg #[.slice ao m cap,.int .i64 (pcI p)]] w fun e w'=>∃ dk dn ds ia il icap na nl ncap,e=.returned (.agg #[.int .i64 dk,.int .i64 dn,.string ds,.slice ia il icap,.slice na nl ncap])∧dk≠4 ∧
   (∀ g,g=w'.heap.size→(w'.alloc (.cells #[.int .i64 dk,.int .i64 dn,.string ds,.slice ia il icap,.slice na nl ncap] 67)).cell? ⟨g,0,none⟩=some (.int .i64 dk)) ∧
   (w'.alloc (.cells #[.int .i64 dk,.int .i64 dn,.string ds,.slice ia il icap,.slice na nl ncap] 67)).cell? ⟨pb,0,none⟩=some (.slice ao m cap)∧(w'.alloc (.cells #[.int .i64 dk,.int .i64 dn,.string ds,.slice ia il icap,.slice na nl ncap] 67)).cell? ⟨pb,1,none⟩=some (.int .i64 (pcI p)) ∧
   YieldAt Fence.wide (n - 1) Tryz.prog l #[.agg #[.slice ao m cap,.int .i64 (pcI p)]] (w'.alloc (.cells #[.int .i64 dk,.int .i64 dn,.string ds,.slice ia il icap,.slice na nl ncap] 67)) fun e W'=>(e=.returned (.bool true)∧J [p] W')∨(e=.returned (.bool false)∧Jx [p] W')):=by
  refine(qld dv D p ao m cap hpv B pb w hB hD hP).mono ?_
  rintro e w' ⟨ia,icap,na,ncap,rfl,hT⟩
  refine⟨_,_,_,_,_,_,_,_,_,rfl,hk,fun g hg=>by subst hg; exact hT.c0,hT.box.1,hT.box.2,?_⟩
  have:=hY [] p _ (qiw hJ h0 hT.kp) (by simp)
  rw[hpv]at this
  refine this.mono ?_
  rintro e W' (⟨h1,h2,_⟩ | h)
  ·exact .inl ⟨h1,h2⟩
  ·exact .inr h
 obtain⟨b0,b1⟩:=hP.facts
 generalize pcI p=pk at HD b1
 clear hY h0 hk hP hD hJ hpv
 refine callsIn_of_wp Tryz.func218 rfl trivial ?_ rfl
 simp only[Tryz.ntmps218,List.size_toArray,List.length_cons,List.length_nil,Nat.reduceAdd,Nat.reduceSub,Array.replicate_succ,Array.replicate_zero,List.push_toArray,List.append_toArray,List.nil_append,List.cons_append]
 gi_wp2_with (refine⟨trivial,?_⟩; gi_at_call 215; refine CallsIn.mono (callsIn_wide.2 HD.out) ?_; rintro e w' ⟨dk,dn,ds,ia,il,icap,na,nl,ncap,rfl,hk,hc0,hp0,hp1,fn,tmps,assign,body,hy,hR⟩; have hc0:=hc0 _ rfl)
 refine hR.mono ?_
 rintro e W3 (⟨rfl,hJ3⟩ | ⟨rfl,hJx3⟩)
 ·gi_wp2
  refine bodyPost_ret (results_none rfl _ _ _) rfl ?_
  exact⟨⟨_,rfl⟩,.inl ⟨_,rfl,hJ3⟩⟩
 ·gi_wp2
  refine bodyPost_ret (results_none rfl _ _ _) rfl ?_
  exact⟨⟨_,rfl⟩,.inr ⟨_,List.prefix_refl _,hJx3⟩⟩
set_option maxRecDepth 100000 in
set_option maxHeartbeats 3200000 in
theorem quv (dv:Value) (D:List Pl.Dt) (p:Pl.Pc) (ao:Option Addr) (m cap:Nat) (hpv:qd9 dv p=.agg #[.slice ao m cap,.int .i64 (pcI p)]) (hdv:dv=.slice ao m cap) (B l pb n:Nat) (hn:1≤n) (J Jx:List Pl.Pc→World→Prop) (w:World) (hB:B≤w.heap.size) (hD:DsAt B w dv D) (hP:PbAt w pb ao m cap (pcI p)) (hJ:AbidesFrom w.heap.size J)
  (hk:(Pl.qbb D p).kind=4)
  (hY:∀ pre x W,J pre W→pre.length<(Pl.qj9 D p).length→YieldAt Fence.wide (n - 1) Tryz.prog l #[qd9 dv x] W fun e W'=>(e=.returned (.bool true)∧J (pre++[x]) W'∧Kp B pb W W')∨(e=.returned (.bool false)∧Jx (pre++[x]) W')) (h0:J [] w) :
  CallsIn Fence.wide n Tryz.prog 218 #[.func (.yield l) #[] #[],.pointer (some ⟨pb,0,none⟩)] w fun e W'=>(∃ v,e=.returned v)∧((∃ ys,ys=Pl.qj9 D p∧J ys W')∨(∃ pre,pre <+: Pl.qj9 D p∧Jx pre W')):=by
 rw[qxm D p hk]at hY ⊢
 have hlt:pb<w.heap.size:=(Array.getElem?_eq_some_iff.1 (show w.heap[pb]?=_ from hP)).1
 have HD:Hid (Calls Tryz.prog 215 #[.agg #[.slice ao m cap,.int .i64 (pcI p)]] w fun e w'=>∃ dn ds ia icap na nl ncap,e=.returned (.agg #[.int .i64 4,.int .i64 dn,.string ds,.slice ia (Pl.qbb D p).items.length icap,.slice na nl ncap]) ∧
   TdAt B w (w'.alloc (.cells #[.int .i64 4,.int .i64 dn,.string ds,.slice ia (Pl.qbb D p).items.length icap,.slice na nl ncap] 67)) w'.heap.size pb ao m cap (pcI p) 4 ia icap (Pl.qbb D p).items):=by
  refine(qld dv D p ao m cap hpv B pb w hB hD hP).mono ?_
  rintro e w' ⟨ia,icap,na,ncap,rfl,hT⟩
  rw[hk]at hT ⊢
  exact⟨_,_,_,_,_,_,_,rfl,hT⟩
 obtain⟨b0,b1⟩:=hP.facts
 generalize (Pl.qbb D p).items=items at HD hY ⊢
 generalize pcI p=pk at HD b1 hP hY ⊢
 clear hk hD hpv
 refine callsIn_of_wp Tryz.func218 rfl trivial ?_ rfl
 simp only[Tryz.ntmps218,List.size_toArray,List.length_cons,List.length_nil,Nat.reduceAdd,Nat.reduceSub,Array.replicate_succ,Array.replicate_zero,List.push_toArray,List.append_toArray,List.nil_append,List.cons_append]
 gi_wp2_with (refine⟨trivial,?_⟩; gi_at_call 215; refine CallsIn.mono (callsIn_wide.2 HD.out) ?_; rintro e w' ⟨dn,ds,ia,icap,na,nl,ncap,rfl,hT⟩; have HT:=(show Hid _ from hT); have hc0:=hT.c0; have hc3:=hT.c3; clear hT)
 generalize w'.alloc _=W at HT hc0 hc3 ⊢
 have hP1:PbAt W pb ao m cap pk:=(HT.out.kp.block _ hlt).trans hP
 have hJ1:=qiw hJ h0 HT.out.kp
 have hit:∀ j x,items[j]?=some x→∃ b,ia=some ⟨b,0,none⟩∧b<B∧W.cell? ⟨b,j,none⟩=some (.int .i64 x):=HT.out.it
 have hBW:B≤W.heap.size:=Nat.le_trans hB HT.out.kp.size
 have hlen:(items.length:Int)≤9223372036854775807:=by have:=HT.out.len; unfold maxLen at this; omega
 gi_loopw [17] (fun i wr=>∃ j:Nat,i=.int .i64 j∧j≤items.length∧Hid (Kp B pb W wr)∧Hid (J ((items.take j).map (Pl.qc9 pk)) wr)) (fun i _=>items.length - (intOf i).toNat)
 case atStart=>exact⟨0,rfl,Nat.zero_le _,Kp.refl _ _ _,hJ1⟩
 case round=>
  obtain⟨j,rfl,hj,HK,HJs⟩:=hrel
  by_cases hlt2:(j:Int)<(items.length:Int)
  ·have hjl:j<items.length:=by omega
   obtain⟨x,hx⟩:∃ x,items[j]?=some x:=⟨_,List.getElem?_eq_getElem hjl⟩
   obtain⟨b,rfl,hb,hcx⟩:=hit j x hx
   have hcx2:=(HK.out.1.cell (p:=⟨b,j,none⟩) hb).trans hcx
   have hP2:PbAt wr pb ao m cap pk:=HK.out.2.trans hP1
   obtain⟨e0,e1⟩:=hP2.facts
   have hlt3:pb<wr.heap.size:=(Array.getElem?_eq_some_iff.1 (show wr.heap[pb]?=_ from hP2)).1
   have htk:(items.take (j+1)).map (Pl.qc9 pk)=(items.take j).map (Pl.qc9 pk)++[Pl.qc9 pk x]:=by
    rw[List.take_add_one,hx]; simp
   have hpre:(items.take (j+1)).map (Pl.qc9 pk) <+: items.map (Pl.qc9 pk):=by
    rw[List.map_take]; exact List.take_prefix _ _
   have HI:Hid (Calls Tryz.prog 219 #[.agg #[.slice ao m cap,.int .i64 pk],.int .i64 x] wr fun e w'=>∃ qa qn qcap q,e=.returned (.agg #[.slice qa qn qcap,.int .i64 (q:Nat)]) ∧
     YieldAt Fence.wide (n - 1) Tryz.prog l #[.agg #[.slice qa qn qcap,.int .i64 q]] w' fun e W'=>(e=.returned (.bool true)∧J ((items.take (j+1)).map (Pl.qc9 pk)) W'∧Kp B pb W W')∨(e=.returned (.bool false)∧Jx ((items.take (j+1)).map (Pl.qc9 pk)) W')):=by
    refine(qw4 ao m cap pk x wr).mono ?_
    rintro e w' ⟨rfl,hbw⟩
    have hJ2:=qiw hJ HJs.out hbw
    have h2:=hY _ (Pl.qc9 pk x) w' hJ2 (by simp; omega)
    rw[← htk,hdv]at h2
    have hkp:Kp B pb W w':=HK.out.trans (Kp.of_below hbw (Nat.le_trans hBW HK.out.1.size) hlt3)
    have h3:∃ qa qn qcap q,qd9 (.slice ao m cap) (Pl.qc9 pk x)=.agg #[.slice qa qn qcap,.int .i64 (q:Nat)]:=by
     cases Pl.qc9 pk x with
     | none=>exact⟨none,0,0,0,rfl⟩
     | some q=>exact⟨ao,m,cap,q,rfl⟩
    obtain⟨qa,qn,qcap,q,hq⟩:=h3
    rw[hq]at h2 ⊢
    refine⟨qa,qn,qcap,q,rfl,h2.mono ?_⟩
    rintro e W' (⟨h4,h5,h6⟩ | h4)
    ·exact .inl ⟨h4,h5,hkp.trans h6⟩
    ·exact .inr h4
   have HP:=(show Hid _ from hpre)
   clear htk hpre hcx hx
   gi_wp2_with (refine⟨trivial,?_⟩; gi_at_call 219; refine CallsIn.mono (callsIn_wide.2 HI.out) ?_; rintro e w' ⟨qa,qn,qcap,q,rfl,fn,tmps,assign,body,hy,hR⟩)
   refine hR.mono ?_
   rintro e W3 (⟨rfl,hJ3,hk3⟩ | ⟨rfl,hJx3⟩)
   ·gi_wp2
    go_roundw
    case rel=>exact⟨j+1,by go_num,by omega,hk3,hJ3⟩
    case measure=>simp[intOf]; omega
   ·gi_wp2
    refine bodyPost_ret (results_none rfl _ _ _) rfl ?_
    exact⟨⟨_,rfl⟩,.inr ⟨_,HP.out,hJx3⟩⟩
  ·obtain rfl:j=items.length:=by omega
   gi_wp2
   go_end0
   refine⟨⟨_,rfl⟩,.inl ?_⟩
   have h9:=HJs.out
   rw[List.take_length]at h9
   first | exact h9 | exact⟨_,rfl,h9⟩
theorem quu (dv:Value) (D:List Pl.Dt) (p:Pl.Pc) (ao:Option Addr) (m cap:Nat) (hA:pcA dv p=.slice ao m cap) (B pb n:Nat) (hn:1≤n) (w:World) (hB:B≤w.heap.size) (hD:DsAt B w dv D) (hP:PbAt w pb ao m cap (pcI p)) :
  SeqStopsK Fence.wide n Tryz.prog 218 #[.pointer (some ⟨pb,0,none⟩)] (fun x:Pl.Pc=>#[qd9 dv x]) (Kp B pb) (fun ys=>ys=Pl.qj9 D p) (fun pre=>pre <+: Pl.qj9 D p) (Pl.qj9 D p).length w:=by
 intro l J Jx W hW hJ _ hY h0
 have hlt:pb<w.heap.size:=(Array.getElem?_eq_some_iff.1 (show w.heap[pb]?=_ from hP)).1
 have hpv:qd9 dv p=.agg #[.slice ao m cap,.int .i64 (pcI p)]:=by rw[qcy,hA]
 have hP2:PbAt W pb ao m cap (pcI p):=(hW.block _ hlt).trans hP
 by_cases hk:(Pl.qbb D p).kind=4
 ·have hdv:dv=.slice ao m cap:=by
   cases p with
   | none=>exact absurd (show (0:Int)=4 from hk) (by decide)
   | some k=>exact hA
  exact quv dv D p ao m cap hpv hdv B l pb n hn J Jx W (Nat.le_trans hB hW.size) (hD.below (hW.mono hB)) hP2 hJ hk hY h0
 ·exact qxn dv D p ao m cap hpv B l pb n hn J Jx W (Nat.le_trans hB hW.size) (hD.below (hW.mono hB)) hP2 hJ hk hY h0
end Go.Proofs.YtfkhljmiehdgmaaGreatDoor
namespace Go.Proofs.YtfkhljmiehdgmaaGreatDoor
open Go.RowKit
def S (l:List UInt8):Value:=.string ⟨l.toArray⟩
def qhb:Array Value:=#[.string ⟨#[104,116,116,112]⟩,.string ⟨#[104,116,116,112,115]⟩,.string ⟨#[109,97,105,108,116,111]⟩]
def qd7:Array Value:=#[
 .int .i64 1,.string ⟨#[38]⟩,.string ⟨#[38,97,109,112,59]⟩,
 .int .i64 1,.string ⟨#[60]⟩,.string ⟨#[38,108,116,59]⟩,
 .int .i64 1,.string ⟨#[62]⟩,.string ⟨#[38,103,116,59]⟩,
 .int .i64 1,.string ⟨#[34]⟩,.string ⟨#[38,113,117,111,116,59]⟩,
 .int .i64 1,.string ⟨#[39]⟩,.string ⟨#[38,35,51,57,59]⟩,
 .int .i64 4,.string ⟨#[226,128,168]⟩,.string ⟨#[92,117,50,48,50,56]⟩,
 .int .i64 4,.string ⟨#[226,128,169]⟩,.string ⟨#[92,117,50,48,50,57]⟩]
def q8x:ByteArray:=⟨#[48,49,50,51,52,53,54,55,56,57,65,66,67,68,69,70]⟩
def q77:ByteArray:=⟨#[48,49,50,51,52,53,54,55,56,57,97,98,99,100,101,102]⟩
def q30:ByteArray:=⟨#[45,46,95,126,47,63,35,91,93,64,33,36,40,41,42,43,44,59,61]⟩
def qxb:Array Value:=#[
 .bool false,.string ⟨#[]⟩,.string ⟨#[]⟩,.string ⟨#[]⟩,.string ⟨#[]⟩,.bool false,.string ⟨#[]⟩,
 .bool false,.string ⟨#[]⟩,.string ⟨#[]⟩,.string ⟨#[]⟩,.string ⟨#[]⟩,.bool false,.string ⟨#[]⟩,
 .bool false,.string ⟨#[]⟩,.string ⟨#[]⟩,.string ⟨#[]⟩,.string ⟨#[]⟩,.bool false,.string ⟨#[]⟩,
 .bool false,.string ⟨#[]⟩,.string q30,.string ⟨#[37]⟩,.string q8x,.bool false,.string ⟨#[]⟩,
 .bool true,.string ⟨#[34,39,38,47,60,62,92,96]⟩,.string ⟨#[]⟩,.string ⟨#[92,120]⟩,.string q77,.bool false,.string ⟨#[]⟩,
 .bool true,.string ⟨#[34,39,38,47,60,62,92]⟩,.string ⟨#[]⟩,.string ⟨#[92]⟩,.string q77,.bool true,.string ⟨#[32]⟩]
def Tabs (w:World):Prop:=
 (∀ j v,qhb.toList[j]?=some v→w.cell? ⟨7,j,none⟩=some v)∧(∀ j v,qd7.toList[j]?=some v→w.cell? ⟨8,j,none⟩=some v)∧(∀ j v,qxb.toList[j]?=some v→w.cell? ⟨9,j,none⟩=some v)
theorem qh1 {w:World} {g j:Nat} {v:Value} (h:w.cell? ⟨g,j,none⟩=some v):g<w.heap.size:=by
 rcases Nat.lt_or_ge g w.heap.size with h' | h'
 ·exact h'
 ·simp[World.cell?,Array.getElem?_eq_none h']at h
theorem Tabs.lt {w:World} (h:Tabs w):9<w.heap.size:=qh1 (h.2.2 0 _ rfl)
theorem Tabs.kept {w w':World} {B:Nat} (h:Tabs w) (hb:Below B w w') (hB:9<B):Tabs w':=
 ⟨fun j v hv=>(hb.cell (p:=⟨7,j,none⟩) (by simp; omega)).trans (h.1 j v hv),fun j v hv=>(hb.cell (p:=⟨8,j,none⟩) (by simp; omega)).trans (h.2.1 j v hv),fun j v hv=>(hb.cell (p:=⟨9,j,none⟩) hB).trans (h.2.2 j v hv)⟩
end Go.Proofs.YtfkhljmiehdgmaaGreatDoor
namespace Go.Proofs.YtfkhljmiehdgmaaGreatDoor
open Go.RowKit Go.Lib
structure ViOne (w:World) (e:Pl.Ev) (v:Nat) (po:Option Addr) (pcap:Nat) (gm:Nat):Prop where
 part:∀ j q,(qbq (e.parts v))[j]?=some q→∃ b,po=some ⟨b,0,none⟩∧b<w.heap.size∧w.cell? ⟨b,j,none⟩=some q
 mark:∀ j m,(e.marks v)[j]?=some m→w.cell? ⟨gm,j,none⟩=some (.int .i64 m)
 lt:gm<w.heap.size
structure Evm (w:World) (vv dv:Value) (e:Pl.Ev) (M:Nat):Prop where
 ok:e.Ok
 small:e.Small M
 bound:5001*M≤140737488355328
 ds:DsAt w.heap.size w dv e.D
 num:∀ d∈e.D,-9223372036854775808≤d.n∧d.n≤9223372036854775807
 pow:quj w
 powB:14<w.heap.size
 ml:qay w
 tabs:Tabs w
 room:e.room≤9223372036854775807
 depth:0≤e.depth∧e.depth≤50
 shows:∀ p,(Pl.qcf (Pl.qbb e.D p)).length≤10000000
 names:∀ v p,p∈e.parts v→p.text.length≤100000
 vis:∃ bv cap,vv=.slice (some ⟨bv,0,none⟩) e.vis.length cap∧bv<w.heap.size∧∀ v,v<e.vis.length→∃ po pcap gm,ViOne w e v po pcap gm∧w.cell? ⟨bv,v*2,none⟩=some (.slice po (e.parts v).length pcap)∧w.cell? ⟨bv,v*2+1,none⟩=some (.slice (some ⟨gm,0,none⟩) (e.parts v).length (e.parts v).length)
def OutC (w0:World) (g:Nat) (vv dv:Value) (e:Pl.Ev) (K:List Pl.Pc) (r:Pl.Wt×Int) (w:World):Ending→World→Prop:=fun ed w'=>
 ed=.returned (.int .i64 r.2)∧(∃ K',WrAt w' w0.heap.size g vv dv e K' r.1∧(r.2=0→K'=K))∧Rn w0.heap.size g w w'
theorem OutC.from {w0:World} {g:Nat} {vv dv:Value} {e:Pl.Ev} {K:List Pl.Pc} {r:Pl.Wt×Int} {w w1:World} {ed:Ending} {w':World} (h:OutC w0 g vv dv e K r w1 ed w') (hr:Rn w0.heap.size g w w1):OutC w0 g vv dv e K r w ed w':=⟨h.1,h.2.1,hr.trans h.2.2⟩
structure Wst (w0:World) (g:Nat) (vv dv:Value) (e:Pl.Ev) (M:Nat) (K:List Pl.Pc) (o:Pl.Wt) (w:World):Prop where
 base:Below w0.heap.size w0 w
 at':WrAt w w0.heap.size g vv dv e K o
 fin:Pl.Fin e M o
 ne:K≠[]
theorem Wst.below {w0:World} {g:Nat} {vv dv:Value} {e:Pl.Ev} {M:Nat} {K:List Pl.Pc} {o:Pl.Wt} {w w':World} (h:Wst w0 g vv dv e M K o w) (hb:Below w.heap.size w w'):Wst w0 g vv dv e M K o w':=
 ⟨h.base.trans (hb.mono h.base.size),h.at'.below hb,h.fin,h.ne⟩
theorem Wst.rn {w0:World} {g:Nat} {vv dv:Value} {e:Pl.Ev} {M:Nat} {K:List Pl.Pc} {o:Pl.Wt} {w w':World} (h:Wst w0 g vv dv e M K o w) (hb:Below w.heap.size w w'):Rn w0.heap.size g w w':=
 Rn.of_below hb h.base.size h.at'.lt.2
theorem ViOne.below {w w':World} {e:Pl.Ev} {v:Nat} {po:Option Addr} {pcap gm:Nat} (h:ViOne w e v po pcap gm) (hb:Below w.heap.size w w'):(∀ j q,(qbq (e.parts v))[j]?=some q→∃ b,po=some ⟨b,0,none⟩∧w'.cell? ⟨b,j,none⟩=some q)∧(∀ j m,(e.marks v)[j]?=some m→w'.cell? ⟨gm,j,none⟩=some (.int .i64 m)):=by
 refine⟨fun j q hq=>?_,fun j m hm=>?_⟩
 ·obtain⟨b,h1,h2,h3⟩:=h.part j q hq
  exact⟨b,h1,(hb.cell (p:=⟨b,j,none⟩) h2).trans h3⟩
 ·exact(hb.cell (p:=⟨gm,j,none⟩) h.lt).trans (h.mark j m hm)
def qke (po:Option Addr) (n pcap gm:Nat) (at' tz:Nat) (qac:Int):Value:=.agg #[.slice po n pcap,.slice (some ⟨gm,0,none⟩) n n,.int .i64 at',.int .i64 tz,.int .i64 qac]
def qoo (w0:World) (g:Nat) (vv dv:Value) (e:Pl.Ev) (M f:Nat):Prop:=
 ∀(v at' tz:Nat) (qac:Int) (K:List Pl.Pc) (o:Pl.Wt) (w:World) (po:Option Addr) (pcap gm:Nat),ViOne w0 e v po pcap gm→tz≤(e.parts v).length→0≤qac→qac≤50→Wst w0 g vv dv e M K o w→5001≤f+o.steps→K.length≤o.steps+1 →
  Calls Tryz.prog 90 #[.pointer (some ⟨g,0,none⟩),qke po (e.parts v).length pcap gm at' tz qac] w (OutC w0 g vv dv e K (e.run f v at' tz qac K o) w)
theorem ql9 {w0:World} {g:Nat} {vv dv:Value} {e:Pl.Ev} {M:Nat} {K:List Pl.Pc} {o:Pl.Wt} {w:World} (h:Wst w0 g vv dv e M K o w) :
  Calls Tryz.prog 124 #[.pointer (some ⟨g,0,none⟩)] w fun ed w'=>(o.steps=5000∧ed=.returned (.int .i64 5)∧w=w')∨(o.steps≠5000∧ed=.returned (.int .i64 0)∧Below w0.heap.size w0 w'∧WrAt w' w0.heap.size g vv dv e K { o with steps:=o.steps+1 }∧Rn w0.heap.size g w w'):=by
 obtain⟨sv,hv,p,v,hw⟩:=h.at'
 by_cases hs:o.steps=5000
 ·have hw2:=hw.wb
  rw[hs]at hw2
  refine(q0b w w0.heap.size g _ _ _ _ _ _ _ _ hw2).mono ?_
  rintro ed w' ⟨rfl,rfl⟩
  exact .inl ⟨hs,rfl,rfl⟩
 ·refine(q5x w w0.heap.size g o.steps _ _ _ _ _ _ _ _ (by have:=h.fin.steps; omega) hw.wb).mono ?_
  rintro ed w' ⟨rfl,h1,h2,h3⟩
  exact .inr ⟨hs,rfl,h.base.trans h2,⟨sv,hv,p,v,hw.turn h1 h3 rfl⟩,Rn.of_wb hw.wb h1 h2 h3⟩
set_option maxRecDepth 100000 in
set_option maxHeartbeats 1600000 in
theorem q2i (w:World) (g:Nat) (po:Option Addr) (n pcap gm at' tz:Nat) (qac:Int) (R:World→Prop)
  (hS:∀ o,Calls Tryz.prog 124 #[.pointer (some ⟨g,0,none⟩)] (w.alloc o) fun ed w'=>ed=.returned (.int .i64 5)∧R w') :
  Calls Tryz.prog 178 #[.pointer (some ⟨g,0,none⟩),qke po n pcap gm at' tz qac] w fun ed w'=>ed=.returned (.int .i64 5)∧R w':=by
 have HS:=(show Hid _ from hS)
 clear hS
 unfold qke
 go_enter Tryz.func178,Tryz.ntmps178
 go_wp2_with (go_at_call 124; refine Calls.mono (HS.out _) ?_; rintro ed w' ⟨rfl,hR⟩)
 go_ret
 exact⟨rfl,hR⟩
set_option maxRecDepth 100000 in
set_option maxHeartbeats 1600000 in
theorem q7e (w:World) (g:Nat) (po:Option Addr) (n pcap gm at' tz:Nat) (qac:Int) (R:Ending→World→Prop) (z:Int) (hRz:∀ ed w',R ed w'→ed=.returned (.int .i64 z))
  (hS:∀ o,o=.cells #[.slice po n pcap,.slice (some ⟨gm,0,none⟩) n n,.int .i64 at',.int .i64 tz,.int .i64 qac] 208→Calls Tryz.prog 124 #[.pointer (some ⟨g,0,none⟩)] (w.alloc o) fun ed w'=>ed=.returned (.int .i64 0) ∧
   (w'.cell? ⟨w.heap.size,0,none⟩=some (.slice po n pcap)∧w'.cell? ⟨w.heap.size,1,none⟩=some (.slice (some ⟨gm,0,none⟩) n n)∧w'.cell? ⟨w.heap.size,2,none⟩=some (.int .i64 at')∧w'.cell? ⟨w.heap.size,3,none⟩=some (.int .i64 tz)∧w'.cell? ⟨w.heap.size,4,none⟩=some (.int .i64 qac)) ∧
   Hid (Calls Tryz.prog 90 #[.pointer (some ⟨g,0,none⟩),qke po n pcap gm at' tz qac] w' R)) :
  Calls Tryz.prog 178 #[.pointer (some ⟨g,0,none⟩),qke po n pcap gm at' tz qac] w R:=by
 have HS:Hid (Calls Tryz.prog 124 #[.pointer (some ⟨g,0,none⟩)] (w.alloc (.cells #[.slice po n pcap,.slice (some ⟨gm,0,none⟩) n n,.int .i64 at',.int .i64 tz,.int .i64 qac] 208)) _):=hS _ rfl
 clear hS
 have HR:=(show Hid _ from hRz)
 clear hRz
 unfold qke at HS ⊢
 go_enter Tryz.func178,Tryz.ntmps178
 go_wp2_with (first
  | (go_at_call 90; refine Calls.mono HP.out ?_; intro ed w2 hR; obtain rfl:=HR.out _ _ hR)
  | (go_at_call 124; refine Calls.mono HS.out ?_; rintro ed w' ⟨rfl,⟨c0,c1,c2,c3,c4⟩,HP⟩))
 exact hR
theorem q4p {w0:World} {g:Nat} {vv dv:Value} {e:Pl.Ev} {M f:Nat} (HP:qoo w0 g vv dv e M f) (v at' tz:Nat) (qac:Int) (K:List Pl.Pc) (o:Pl.Wt) (w:World) (po:Option Addr) (pcap gm:Nat) (hv:ViOne w0 e v po pcap gm) (htz:tz≤(e.parts v).length) (hi0:0≤qac) (hi1:qac≤50) (h:Wst w0 g vv dv e M K o w) (hf:5000≤f+o.steps) (hK:K.length≤o.steps+2) :
  Calls Tryz.prog 178 #[.pointer (some ⟨g,0,none⟩),qke po (e.parts v).length pcap gm at' tz qac] w (OutC w0 g vv dv e K (Pl.qc1 (e.run f v at' tz qac K) o) w):=by
 have hal:∀ ob,Below w.heap.size w (w.alloc ob):=fun ob=>(Below.refl _ _).alloc (Nat.le_refl _) ob
 unfold Pl.qc1
 by_cases hs:o.steps=5000
 ·rw[if_pos hs]
  refine(q2i w g po (e.parts v).length pcap gm at' tz qac (fun w'=>(∃ K',WrAt w' w0.heap.size g vv dv e K' o∧((5:Int)=0→K'=K))∧Rn w0.heap.size g w w') fun ob=>?_).mono fun ed w' hx=>⟨hx.1,hx.2⟩
  refine(ql9 (h.below (hal ob))).mono ?_
  rintro ed w' (⟨_,rfl,rfl⟩ | ⟨h1,_⟩)
  ·exact⟨rfl,⟨K,(h.below (hal ob)).at',fun _=>rfl⟩,h.rn (hal ob)⟩
  ·exact absurd hs h1
 ·rw[if_neg hs]
  refine q7e w g po (e.parts v).length pcap gm at' tz qac _ _ (fun ed w' hx=>hx.1) fun ob hob=>?_
  have hw1:=h.below (hal ob)
  refine(ql9 hw1).mono ?_
  rintro ed w' (⟨h1,_⟩ | ⟨_,rfl,h2,h3,h4⟩)
  ·exact absurd h1 hs
  ·have hbk:(w.alloc ob).heap[w.heap.size]?=some ob:=heap_alloc_new w ob
   have hnow:¬ Ow g (w.alloc ob) w.heap.size:=fun hx=>Nat.lt_irrefl _ (h.at'.own_lt ((qih ((hal ob).block g h.at'.lt.2) _).1 hx))
   have hbk2:w'.heap[w.heap.size]?=some ob:=h4.kept _ _ hbk hnow (fun c fz hx=>by rw[hob]at hx; injection hx with _ hx _; exact absurd hx (by decide))
   rw[hob]at hbk2
   have c:=qaa hbk2
   have hwst:Wst w0 g vv dv e M K { o with steps:=o.steps+1 } w':=⟨h2,h3,(h.fin.step hs).fin,h.ne⟩
   refine⟨rfl,⟨c 0 _ rfl,c 1 _ rfl,c 2 _ rfl,c 3 _ rfl,c 4 _ rfl⟩,?_⟩
   show Calls _ _ _ _ _
   refine(HP v at' tz qac K { o with steps:=o.steps+1 } w' po pcap gm hv htz hi0 hi1 hwst (by show 5001≤f+(o.steps+1); omega) (by show K.length≤o.steps+1+1; omega)).mono ?_
   intro ed w2 hx
   exact hx.from ((h.rn (hal ob)).trans h4)
end Go.Proofs.YtfkhljmiehdgmaaGreatDoor
