/-
  Steps of the proof (texts laid together, blanks left out): TgR, TgP.
-/
import Derived.ScopeJumps
import Derived.WalkMore
import Derived.Test.YtfkhljmiehdgmaaGreatDoorTaAE
import Derived.Test.YtfkhljmiehdgmaaGreatDoorTaAL
import Derived.Lib.BufferWrite
import Derived.Lib.UnsafeStr
import Derived.OwnWalk
import Derived.Test.YtfkhljmiehdgmaaGreatDoorTaAD
namespace Go.Proofs.YtfkhljmiehdgmaaGreatDoor
open Go.RowKit
theorem qqa {P:Program} {pre rest:Code} {a:Act} {w:World} {Q:Exit→Act→World→Prop} (l:Nat) (J:Act→World→Prop) (μ:Act→World→Nat) (hf:findLabel pre l=none)
  (hpre:pre.wp P (fun e a' w'=>e=.normal∧J a' w') a w)
  (pass:∀ a w,J a w→rest.wp P (Exit.jump l (fun a' w'=>J a' w'∧μ a' w'<μ a w) Q) a w):(Code.scope (pre.seq ((Code.label l).seq rest))).wp P Q a w:=by
 refine wp_scope_jumps l J μ (rest:=Code.skip.seq rest) (by simp[findLabel,hf]) ?_ (fun a w hJ=>wp_seq (wp_skip (pass a w hJ)))
 refine wp_seq (wp_mono hpre ?_)
 rintro e a' w' ⟨rfl,hJ⟩
 show ((Code.label l).seq rest).wp P (Exit.jump l J Q) a' w'
 refine wp_seq (wp_label ?_)
 show rest.wp P (Exit.jump l J Q) a' w'
 refine wp_mono (pass a' w' hJ) ?_
 intro e a'' w'' h
 cases e<;>first | exact⟨h.1,h.2.1⟩ | exact h
theorem q5o {P:Program} {c:Code} {Q:Exit→Act→World→Prop} {a:Act} {w:World} (h:∀ Q':Exit→Act→World→Prop,(∀ e a w,Q e a w→Q' e a w)→c.wp P Q' a w):c.wp P Q a w:=h Q (fun _ _ _ q=>q)
structure CutI (w wr:World) (B g:Nat) (t:List UInt8) (R:(Nat×Nat)×List Pl.Pt) (c:Pl.Ct) (p:Nat) (vp vo:Value):Prop where
 at':CtAt wr B g t c vp vo
 ok:Pl.CtOk t c p
 cur:Cur B g w wr
 slot:wr.heap[w.heap.size]?=some (.cells #[.int .i64 0,.int .i64 0] 169 (0,0))
 ml:qay wr
 rest:c.rest t p=R
def CutJ (w:World) (B g:Nat) (t:List UInt8) (R:(Nat×Nat)×List Pl.Pt) (a:Act) (wr:World):Prop:=
 ∃(c:Pl.Ct) (p:Nat) (vp vo:Value) (u:Nat→Value),a={ tmps:=#[.pointer (some ⟨g,0,none⟩),u 1,.pointer (some ⟨w.heap.size,0,none⟩),.int .i64 p,u 4,u 5,u 6,u 7,u 8,u 9,u 10,u 11,u 12,u 13,u 14,u 15,u 16,u 17,u 18,u 19,u 20,u 21,u 22,u 23,u 24,u 25,u 26,u 27,u 28,u 29,u 30,u 31,u 32,u 33,u 34,u 35,u 36,u 37,u 38,u 39,u 40,u 41,u 42,u 43,u 44,u 45,u 46,u 47,u 48,u 49,u 50,u 51,u 52,u 53,u 54,u 55,u 56,u 57,u 58,u 59,u 60,u 61,u 62,u 63,u 64,u 65,u 66,u 67,u 68,u 69,u 70,u 71,u 72,u 73,u 74,u 75,u 76,u 77,u 78,u 79,u 80,u 81,u 82,u 83,u 84,u 85,u 86,u 87,u 88,u 89,u 90,u 91,u 92,u 93,u 94,u 95,u 96,u 97,u 98,u 99,u 100,u 101,u 102,u 103,u 104,u 105],defers:=[] }∧CutI w wr B g t R c p vp vo
theorem CutJ.of {w wr:World} {B g:Nat} {t:List UInt8} {R:(Nat×Nat)×List Pl.Pt} {tm:Array Value} (c:Pl.Ct) (p:Nat) (vp vo:Value) (hf:tm=#[.pointer (some ⟨g,0,none⟩),tm.getD 1 undef,.pointer (some ⟨w.heap.size,0,none⟩),.int .i64 p,tm.getD 4 undef,tm.getD 5 undef,tm.getD 6 undef,tm.getD 7 undef,tm.getD 8 undef,tm.getD 9 undef,tm.getD 10 undef,tm.getD 11 undef,tm.getD 12 undef,tm.getD 13 undef,tm.getD 14 undef,tm.getD 15 undef,tm.getD 16 undef,tm.getD 17 undef,tm.getD 18 undef,tm.getD 19 undef,tm.getD 20 undef,tm.getD 21 undef,tm.getD 22 undef,tm.getD 23 undef,tm.getD 24 undef,tm.getD 25 undef,tm.getD 26 undef,tm.getD 27 undef,tm.getD 28 undef,tm.getD 29 undef,tm.getD 30 undef,tm.getD 31 undef,tm.getD 32 undef,tm.getD 33 undef,tm.getD 34 undef,tm.getD 35 undef,tm.getD 36 undef,tm.getD 37 undef,tm.getD 38 undef,tm.getD 39 undef,tm.getD 40 undef,tm.getD 41 undef,tm.getD 42 undef,tm.getD 43 undef,tm.getD 44 undef,tm.getD 45 undef,tm.getD 46 undef,tm.getD 47 undef,tm.getD 48 undef,tm.getD 49 undef,tm.getD 50 undef,tm.getD 51 undef,tm.getD 52 undef,tm.getD 53 undef,tm.getD 54 undef,tm.getD 55 undef,tm.getD 56 undef,tm.getD 57 undef,tm.getD 58 undef,tm.getD 59 undef,tm.getD 60 undef,tm.getD 61 undef,tm.getD 62 undef,tm.getD 63 undef,tm.getD 64 undef,tm.getD 65 undef,tm.getD 66 undef,tm.getD 67 undef,tm.getD 68 undef,tm.getD 69 undef,tm.getD 70 undef,tm.getD 71 undef,tm.getD 72 undef,tm.getD 73 undef,tm.getD 74 undef,tm.getD 75 undef,tm.getD 76 undef,tm.getD 77 undef,tm.getD 78 undef,tm.getD 79 undef,tm.getD 80 undef,tm.getD 81 undef,tm.getD 82 undef,tm.getD 83 undef,tm.getD 84 undef,tm.getD 85 undef,tm.getD 86 undef,tm.getD 87 undef,tm.getD 88 undef,tm.getD 89 undef,tm.getD 90 undef,tm.getD 91 undef,tm.getD 92 undef,tm.getD 93 undef,tm.getD 94 undef,tm.getD 95 undef,tm.getD 96 undef,tm.getD 97 undef,tm.getD 98 undef,tm.getD 99 undef,tm.getD 100 undef,tm.getD 101 undef,tm.getD 102 undef,tm.getD 103 undef,tm.getD 104 undef,tm.getD 105 undef]) (hI:CutI w wr B g t R c p vp vo):CutJ w B g t R { tmps:=tm,defers:=[] } wr:=
 ⟨c,p,vp,vo,fun i=>tm.getD i undef,congrArg (fun x=>({ tmps:=x,defers:=[] }:Act)) hf,hI⟩
def CutP (w:World) (B g:Nat) (t:List UInt8) (R:(Nat×Nat)×List Pl.Pt) (e:Ending) (w':World):Prop:=
 e=.returned (qf7 R.1.1 R.1.2)∧Cur B g w w'∧(R.1.1=0→∃ c vp vo,CtAt w' B g t c vp vo∧c.parts=R.2)
def qc8 (t:List UInt8):Prop:=∀(L:List UInt8) (w:World),L.length≤2000→(∀ b∈L,b∈t)→qay w →
 Calls Tryz.prog 149 #[.string ⟨L.toArray⟩] w fun e w'=>e=.returned (qdl (Pl.qcg L))∧Below w.heap.size w w'
theorem CutI.drewN {w wr:World} {B g:Nat} {t:List UInt8} {R:(Nat×Nat)×List Pl.Pt} {c:Pl.Ct} {p:Nat} {vp vo:Value} (h:CutI w wr B g t R c p vp vo) (n:Nat):CutI w (wr.drewN n) B g t R c p vp vo:=
 ⟨h.at'.kept fun _ _=>rfl,h.ok,⟨qa3 h.cur.below n,h.cur.keep⟩,h.slot,h.ml,h.rest⟩
theorem qhk:(274:TypeId)≠229:=by decide
theorem qix:(274:TypeId)≠3:=by decide
theorem qb3:(169:TypeId)≠229:=by decide
theorem qcb:(169:TypeId)≠3:=by decide
theorem qxl:(169:TypeId)≠222:=by decide
theorem CtAt.setSlip {w:World} {B g:Nat} {t:List UInt8} {c:Pl.Ct} {vp vo:Value} (h:CtAt w B g t c vp vo) {k:Nat} {cs:Array Value} {fz:Nat×Nat} (hs:w.heap[k]?=some (.cells cs 169 fz)) (j:Nat) (v:Value):CtAt (w.setCell ⟨k,j,none⟩ v) B g t c vp vo:=by
 have hset:∀ i,i≠k→(w.setCell ⟨k,j,none⟩ v).heap[i]?=w.heap[i]?:=fun i hi=>Below.heap_setCell _ _ _ _ hi
 refine⟨(hset g (qaf h.blk hs qxl.symm)).trans h.blk,qah h.parts fun i hi=>hset i ?_,qah h.opened fun i hi=>hset i ?_,h.le⟩
 ·obtain⟨cur,hc⟩:=qae h.parts i hi
  exact qaf hc hs qb3.symm
 ·obtain⟨cur,hc⟩:=qae h.opened i hi
  exact qaf hc hs qcb.symm
theorem Cur.setNew {B g:Nat} {w w':World} (h:Cur B g w w') (hB:B≤w.heap.size) (j:Nat) (v:Value):Cur B g w (w'.setCell ⟨w.heap.size,j,none⟩ v):=
 ⟨h.below.setCell (p:=⟨w.heap.size,j,none⟩) hB v,fun k cs t fz hk h1 h2 h3=>(Below.heap_setCell _ _ _ _ (by have:=(Array.getElem?_eq_some_iff.1 hk).1; simp only; omega)).trans (h.keep k cs t fz hk h1 h2 h3)⟩
theorem qn0 {w:World} {g:Nat} {t:TypeId} {u0 u1:Value} (h:w.heap[g]?=some (.cells #[u0,u1] t (0,0))) (v0 v1:Value) :
  ((w.setCell ⟨g,0,none⟩ v0).setCell ⟨g,1,none⟩ v1).heap[g]?=some (.cells #[v0,v1] t (0,0)):=
 heap_setCell_same _ _ _ _ _ _ (heap_setCell_same _ _ _ _ _ _ h)
theorem qrd {a:Act} {w w':World} {B g:Nat} {t:List UInt8} {R:(Nat×Nat)×List Pl.Pt} (hp:a.tmps.getD 2 undef=.pointer (some ⟨w.heap.size,0,none⟩)) (hd:a.defers=[]) (hs:w'.heap[w.heap.size]?=some (.cells #[.int .i64 0,.int .i64 0] 169 (0,0))) (hc:Cur B g w w') (hB:B≤w.heap.size)
  (k q:Int) (hk:k=R.1.1) (hq:q=R.1.2) (hx:R.1.1=0→∃ c vp vo,CtAt w' B g t c vp vo∧c.parts=R.2) :
  bodyPost Tryz.prog Tryz.f104 (CutP w B g t R) .ret a ((w'.setCell ⟨w.heap.size,0,none⟩ (.int .i64 k)).setCell ⟨w.heap.size,1,none⟩ (.int .i64 q)):=by
 subst hk hq
 refine bodyPost_ret (qbn Tryz.results104 _ _ w.heap.size _ _ hp (qaa (qn0 hs _ _)) Tryz.underlying169 rfl (by kernel_rfl)) hd ?_
 refine⟨rfl,(hc.setNew hB _ _).setNew hB _ _,fun h0=>?_⟩
 obtain⟨c,vp,vo,h1,h2⟩:=hx h0
 exact⟨c,vp,vo,(h1.setSlip hs _ _).setSlip (heap_setCell_same _ _ _ _ _ _ hs) _ _,h2⟩
theorem qel {w':World} {k:Nat} (hs:w'.heap[k]?=some (.cells #[.int .i64 0,.int .i64 0] 169 (0,0))):w'.cell? ⟨k,0,none⟩=some (.int .i64 0)∧w'.cell? ⟨k,1,none⟩=some (.int .i64 0)∧w'.frozen? ⟨k,0,none⟩=false∧w'.frozen? ⟨k,1,none⟩=false:=by
 have c:=qaa hs
 exact⟨c 0 _ rfl,c 1 _ rfl,by simp[World.frozen?,hs],by simp[World.frozen?,hs]⟩
theorem qay.cur {w w':World} {B:Nat} (h:qay w) (hb:Below B w w') (hlt:11<B):qay w':=by
 obtain⟨m,hm⟩:=h
 exact⟨m,(World.cell?_of_block (hb.block _ hlt)).trans hm⟩
theorem q03 (l cs:List UInt8):∀ b∈Lib.trimS l cs,b∈l:=by
 intro b hb
 unfold Lib.trimS Lib.trimLeftS Lib.trimRightS at hb
 have h1:=(List.dropWhile_sublist _).subset hb
 rw[List.mem_reverse]at h1
 have h2:=(List.dropWhile_sublist _).subset h1
 exact List.mem_reverse.1 h2
theorem q2u (l cs:List UInt8):(Lib.trimS l cs).length≤l.length:=by
 unfold Lib.trimS
 exact Nat.le_trans (Pl.qka _ _) (Pl.qqh _ _)
set_option maxRecDepth 100000 in
set_option maxHeartbeats 6400000 in
theorem q69 (w:World) (B g:Nat) (t:List UInt8) (c0:Pl.Ct) (vp0 vo0:Value) (h:CtAt w B g t c0 vp0 vo0) (hok:Pl.CtOk t c0 0) (hm:qay w) (ht:t.length≤2000) (hR:qc8 t) (hBg:11<B) :
  Calls Tryz.prog 104 #[.pointer (some ⟨g,0,none⟩)] w (CutP w B g t (c0.rest t 0)):=by
 have HI:Hid (CutI w (w.alloc (.cells #[.int .i64 0,.int .i64 0] 169)) B g t (c0.rest t 0) c0 0 vp0 vo0):=
  ⟨h.alloc _,hok,Cur.of_below ((Below.refl _ _).alloc (Nat.le_refl _) _) (Nat.le_trans h.le (Nat.le_of_lt h.lt)),heap_alloc_new w _,hm.below ((Below.refl _ _).alloc (Nat.le_refl _) _),rfl⟩
 have HR:=(show Hid _ from hR)
 have hgw:g<w.heap.size:=h.lt
 clear h hok hm hR
 generalize hRR:c0.rest t 0=R at HI ⊢
 clear hRR
 go_enter Tryz.func104,Tryz.ntmps104
 go_wp2_with fail
 refine qqa 0 (CutJ w B g t R) (fun a' _=>t.length - (intOf (a'.tmps.getD 3 undef)).toNat) rfl ?_ ?_
 ·go_wp2_with fail
  exact⟨c0,0,vp0,vo0,fun _=>undef,rfl,HI.out⟩
 ·rintro a' wr ⟨c,p,vp,vo,u,rfl,hI⟩
  clear HI
  have HI:=(show Hid _ from hI)
  refine q5o (fun Q2 hQ2=>?_)
  have HQ:=(show Hid _ from hQ2)
  clear hQ2
  obtain⟨m,hm⟩:=hI.ml
  obtain⟨T,hT⟩:∃ T,T=(⟨t.toArray⟩:ByteArray):=⟨_,rfl⟩
  have hTs:T.size=t.length:=by rw[hT]; exact qc2 t
  have b0:=hI.at'.cell 0 _ rfl
  have b1:=hI.at'.cell 1 _ rfl
  have b2:=hI.at'.cell 2 _ rfl
  unfold bs at b0 b1 b2
  rw[← hT]at b0
  have hO:(⟨c.op.toArray⟩:ByteArray).data.toList=c.op:=rfl
  have hC:(⟨c.cl.toArray⟩:ByteArray).data.toList=c.cl:=rfl
  generalize (⟨c.op.toArray⟩:ByteArray)=O at b1 hO
  generalize (⟨c.cl.toArray⟩:ByteArray)=C at b2 hC
  have hE:(T.extract p t.length).data.toList=t.drop p:=by rw[hT,qlo]
  have hC1:=fun n=>Tryz.strings_Cut (T.extract p t.length) O m (wr.drewN n) (by rw[hT,qhg,qc2]; simp; omega) hm
  rw[hE,hO]at hC1
  have hpl:=hI.ok.le
  have c1:(p:Int)≤(t.length:Int):=by omega
  have hsg:w.heap.size≠g:=by omega
  have hB:=hI.at'.le
  have okc:=(show Hid _ from hI.ok)
  clear hI
  by_cases f1:(Lib.cut (t.drop p) c.op).2.2=true
  rotate_left
  ·have f1:=Bool.eq_false_iff.2 f1
   have hS:=Pl.qkd f1
   have okd:=Pl.qhh okc.out t.length t.length hpl (Nat.le_refl _) (Nat.le_refl _)
   have hRR:R=((c.addText t p t.length).left,(c.addText t p t.length).parts):=by rw[← HI.out.rest,Pl.qsm hS]
   rw[f1]at hC1
   generalize (Lib.cut (t.drop p) c.op).1=A1 at hC1
   generalize (Lib.cut (t.drop p) c.op).2.1=R1 at hC1
   have HC1:Hid (∀ n,Calls Tryz.prog 146 #[.string (T.extract p t.length),.string O] (wr.drewN n) fun e w''=>e=.returned (.tuple #[.string ⟨A1.toArray⟩,.string ⟨R1.toArray⟩,.bool false])∧∃ m,w''=wr.drewN m):=fun n=>(hC1 n).mono fun e w'' ⟨h1,q,h2⟩=>⟨h1,n+q,by rw[h2,World.drewN_drewN]⟩
   have HAdd:Hid (∀ n,Calls Tryz.prog 147 #[.pointer (some ⟨g,0,none⟩),.int .i64 p,.int .i64 t.length] (wr.drewN n) fun e w'=>(∃ r,e=.returned r)∧CtTo (wr.drewN n) w' B g t (c.addText t p t.length)):=fun n=>by
    exact qom (wr.drewN n) B g t c vp vo p t.length (HI.out.drewN n).at' (Nat.le_refl _) (by have:=okc.out.few; omega)
   generalize c.addText t p t.length=d at okd hRR HAdd
   have HD:=(show Hid _ from okd)
   have HRR:=(show Hid _ from hRR)
   clear hC1 hS okd hRR f1 hO hC hE hT
   have HLeft:Hid (∀ W0 W,CtTo W0 W B g t d→Calls Tryz.prog 148 #[.pointer (some ⟨g,0,none⟩)] W fun e w'=>e=.returned (.agg #[.int .i64 (d.left.1:Nat),.int .i64 (d.left.2:Nat)])∧Below W.heap.size W w'):=fun W0 W hT=>by
    obtain⟨vp1,vo1,h1⟩:=hT.ex
    exact qs2 W B g t d vp1 vo1 h1 (Pl.WfO.lt HD.out.wf) (by have:=Pl.CtOk.few HD.out; omega) (Pl.CtOk.six HD.out)
   go_wp2_with fail
   go_quiet ((go_at_call 146; exact HC1.out _))
   go_wp2_with (first
    | (go_at_call 147; refine Calls.mono (HAdd.out _) ?_; rintro e w1 ⟨⟨r,rfl⟩,hT1⟩; have HT1:=(show Hid _ from hT1); clear hT1)
    | (go_at_call 148; refine Calls.mono (HLeft.out _ _ HT1.out) ?_; rintro e w2 ⟨rfl,hb⟩; have hs2:=(hb.block _ (Nat.lt_of_lt_of_le (Array.getElem?_eq_some_iff.1 (HI.out.slot)).1 (CtTo.cur HT1.out).below.size)).trans (((CtTo.cur HT1.out).keep _ _ _ _ HI.out.slot hsg qb3 qcb).trans HI.out.slot); obtain⟨s0,s1,fs0,fs1⟩:=qel hs2; have HS2:=(show Hid _ from hs2); have HB2:=(show Hid _ from hb); clear hs2 hb))
   refine HQ.out _ _ _ ?_
   simp only[Exit.jump]
   refine qrd rfl rfl HS2.out ((Cur.trans (CutI.drewN HI.out _).cur (CtTo.cur HT1.out)).trans (Cur.of_below HB2.out (by have:=(CtTo.cur HT1.out).below.size; have:=HI.out.cur.below.size; have e:(wr.drewN nq).heap.size=wr.heap.size:=rfl; have:=(CtAt.lt HI.out.at'); omega))) (by omega) _ _ (by rw[HRR.out]) (by rw[HRR.out]) (fun _=>?_)
   obtain⟨vp1,vo1,h1⟩:=CtTo.ex HT1.out
   exact⟨d,vp1,vo1,h1.below HB2.out,by rw[HRR.out]⟩
  ·obtain⟨i1,hi1,hi2,hi3,hi4,hi5⟩:=Pl.qiq _ _ f1
   rw[List.length_drop]at hi2
   by_cases f2:(Lib.cut (Lib.cut (t.drop p) c.op).2.1 c.cl).2.2=true
   rotate_left
   ·have f2:=Bool.eq_false_iff.2 f2
    have hS:=Pl.qhm f1 f2
    have hRR:R=((2,p+(Lib.cut (t.drop p) c.op).1.length),[]):=by rw[← HI.out.rest,Pl.qnd hS]
    have hC2:=fun n=>Tryz.strings_Cut (⟨(Lib.cut (t.drop p) c.op).2.1.toArray⟩:ByteArray) C m (wr.drewN n) (by rw[qc2,hi4]; simp; omega) hm
    rw[f1]at hC1
    have hl:(⟨(Lib.cut (t.drop p) c.op).2.1.toArray⟩:ByteArray).data.toList=(Lib.cut (t.drop p) c.op).2.1:=rfl
    rw[hl,hC,f2]at hC2
    clear hi4 hi3 hi1 hS hl
    generalize (Lib.cut (t.drop p) c.op).1=A1 at *
    generalize (Lib.cut (t.drop p) c.op).2.1=R1 at *
    generalize (Lib.cut R1 c.cl).1=A2 at *
    generalize (Lib.cut R1 c.cl).2.1=R2 at *
    have HC1:Hid (∀ n,Calls Tryz.prog 146 #[.string (T.extract p t.length),.string O] (wr.drewN n) fun e w''=>e=.returned (.tuple #[.string ⟨A1.toArray⟩,.string ⟨R1.toArray⟩,.bool true])∧∃ m,w''=wr.drewN m):=fun n=>(hC1 n).mono fun e w'' ⟨h1,q,h2⟩=>⟨h1,n+q,by rw[h2,World.drewN_drewN]⟩
    have HC2:Hid (∀ n,Calls Tryz.prog 146 #[.string ⟨R1.toArray⟩,.string C] (wr.drewN n) fun e w''=>e=.returned (.tuple #[.string ⟨A2.toArray⟩,.string ⟨R2.toArray⟩,.bool false])∧∃ m,w''=wr.drewN m):=fun n=>(hC2 n).mono fun e w'' ⟨h1,q,h2⟩=>⟨h1,n+q,by rw[h2,World.drewN_drewN]⟩
    have HRR:=(show Hid _ from hRR)
    obtain⟨s0,s1,fs0,fs1⟩:=qel HI.out.slot
    have a0:p+A1.length≤2000:=by omega
    clear hC1 hC2 hRR f1 f2 hO hC hE hT hi2 hi5
    go_wp2_with fail
    go_quiet ((go_at_call 146; exact HC1.out _))
    go_wp2_with (go_at_call 146; refine Calls.mono (HC2.out _) ?_; rintro e w1 ⟨rfl,n2,rfl⟩)
    refine HQ.out _ _ _ ?_
    simp only[Exit.jump]
    refine qrd (w':=wr.drewN n2) rfl rfl HI.out.slot (CutI.drewN HI.out _).cur (by have:=(CtAt.lt HI.out.at'); have:=HI.out.cur.below.size; omega) _ _ (by rw[HRR.out]; rfl) (by rw[HRR.out]; rfl) (fun h0=>by rw[HRR.out]at h0; cases h0)
   ·obtain⟨i2,hj1,hj2,hj3,hj4,hj5⟩:=Pl.qiq _ _ f2
    have hin:∀ b∈Lib.trimS (Lib.cut (Lib.cut (t.drop p) c.op).2.1 c.cl).1 Pl.qbc,b∈t:=fun b hb=>by
     have h1:=q03 _ _ b hb
     rw[hj3]at h1
     have h2:=List.mem_of_mem_take h1
     rw[hi4]at h2
     exact List.mem_of_mem_drop (List.mem_of_mem_drop h2)
    have hil:=q2u (Lib.cut (Lib.cut (t.drop p) c.op).2.1 c.cl).1 Pl.qbc
    obtain⟨one,h1⟩:∃ one,Pl.qcg (Lib.trimS (Lib.cut (Lib.cut (t.drop p) c.op).2.1 c.cl).1 Pl.qbc)=one:=⟨_,rfl⟩
    have ho:=Pl.qnf (Lib.trimS (Lib.cut (Lib.cut (t.drop p) c.op).2.1 c.cl).1 Pl.qbc)
    rw[h1]at ho
    obtain⟨q,hq⟩:∃ q,p+(Lib.cut (t.drop p) c.op).1.length=q:=⟨_,rfl⟩
    obtain⟨tz,hto⟩:∃ tz,q+c.op.length+(Lib.cut (Lib.cut (t.drop p) c.op).2.1 c.cl).1.length+c.cl.length=tz:=⟨_,rfl⟩
    obtain⟨o,hoo⟩:∃ o,(if one.kind≠2 then Pl.qdr t q tz else(q,tz))=o:=⟨_,rfl⟩
    have hS:=Pl.ql8 f1 f2 one h1 q tz hq hto o hoo
    have hrl:(Lib.cut (t.drop p) c.op).2.1.length=t.length - (p+(i1+c.op.length)):=by rw[hi4]; simp
    have hC2:=fun n=>Tryz.strings_Cut (⟨(Lib.cut (t.drop p) c.op).2.1.toArray⟩:ByteArray) C m (wr.drewN n) (by rw[qc2,hrl]; omega) hm
    rw[f1]at hC1
    have hl:(⟨(Lib.cut (t.drop p) c.op).2.1.toArray⟩:ByteArray).data.toList=(Lib.cut (t.drop p) c.op).2.1:=rfl
    rw[hl,hC,f2]at hC2
    rw[hi5]at hq
    rw[hj5]at hto hil
    rw[hrl]at hj2
    have hop:=(Pl.CtOk.op okc.out)
    have hcl:=(Pl.CtOk.cl okc.out)
    have htz:tz≤t.length:=by omega
    have hqt:q≤t.length:=by omega
    have hOs:O.size=c.op.length:=by rw[← hO]; simp
    have hCs:C.size=c.cl.length:=by rw[← hC]; simp
    have hoz:o.1≤q∧tz≤o.2∧o.2≤t.length:=by
     rw[← hoo]
     split
     ·exact Pl.qns t q tz hqt htz
     ·exact⟨Nat.le_refl _,Nat.le_refl _,htz⟩
    have okd:=Pl.qhh okc.out o.1 q (by omega) hoz.1 hqt
    have hA1:(Lib.cut (t.drop p) c.op).1.length=i1:=hi5
    have hA2:(Lib.cut (Lib.cut (t.drop p) c.op).2.1 c.cl).1.length=i2:=hj5
    clear hi3 hi4 hi1 hl hj1 hj3 hj4 hi5 hj5 hrl
    generalize (Lib.cut (t.drop p) c.op).1=A1 at *
    generalize (Lib.cut (t.drop p) c.op).2.1=R1 at *
    generalize (Lib.cut R1 c.cl).1=A2 at *
    generalize (Lib.cut R1 c.cl).2.1=R2 at *
    have HC1:Hid (∀ n,Calls Tryz.prog 146 #[.string (T.extract p t.length),.string O] (wr.drewN n) fun e w''=>e=.returned (.tuple #[.string ⟨A1.toArray⟩,.string ⟨R1.toArray⟩,.bool true])∧∃ m,w''=wr.drewN m):=fun n=>(hC1 n).mono fun e w'' ⟨h1,q,h2⟩=>⟨h1,n+q,by rw[h2,World.drewN_drewN]⟩
    have HC2:Hid (∀ n,Calls Tryz.prog 146 #[.string ⟨R1.toArray⟩,.string C] (wr.drewN n) fun e w''=>e=.returned (.tuple #[.string ⟨A2.toArray⟩,.string ⟨R2.toArray⟩,.bool true])∧∃ m,w''=wr.drewN m):=fun n=>(hC2 n).mono fun e w'' ⟨h1,q,h2⟩=>⟨h1,n+q,by rw[h2,World.drewN_drewN]⟩
    have HTrim:Hid (∀ W,Calls Tryz.prog 150 #[.string ⟨A2.toArray⟩,.string ⟨#[9,10,12,13,32]⟩] W fun e w'=>e=.returned (.string ⟨(Lib.trimS A2 Pl.qbc).toArray⟩)∧Below W.heap.size W w'):=fun W=>quw ⟨A2.toArray⟩ W (by rw[qc2,hA2]; omega)
    have HRd:Hid (∀ W,qay W→Calls Tryz.prog 149 #[.string ⟨(Lib.trimS A2 Pl.qbc).toArray⟩] W fun e w'=>e=.returned (.agg #[.int .i64 one.kind,.int .i64 one.slip,.string ⟨one.name.toArray⟩,.string ⟨one.op.toArray⟩,.string ⟨one.cl.toArray⟩])∧Below W.heap.size W w'):=fun W hW=>by
     have:=HR.out (Lib.trimS A2 Pl.qbc) W (by omega) hin hW
     rw[h1]at this
     exact this
    have HLine:Hid (∀ W,CtAt W B g t c vp vo→Calls Tryz.prog 151 #[.pointer (some ⟨g,0,none⟩),.int .i64 q,.int .i64 tz] W fun e w'=>e=.returned (.tuple #[.int .i64 (Pl.qdr t q tz).1,.int .i64 (Pl.qdr t q tz).2])∧Below W.heap.size W w'):=fun W hW=>q3v W B g t c vp vo hW q tz hqt htz ht
    have HAdd:Hid (∀ W,CtAt W B g t c vp vo→Calls Tryz.prog 147 #[.pointer (some ⟨g,0,none⟩),.int .i64 p,.int .i64 o.1] W fun e w'=>(∃ r,e=.returned r)∧CtTo W w' B g t (c.addText t p o.1)):=fun W hW=>qom W B g t c vp vo p o.1 hW (by omega) (by have:=okc.out.few; omega)
    generalize c.addText t p o.1=d at okd hS HAdd
    have HTake:Hid (∀ W0 W,CtTo W0 W B g t d→Calls Tryz.prog 152 #[.pointer (some ⟨g,0,none⟩),.agg #[.int .i64 one.kind,.int .i64 one.slip,.string ⟨one.name.toArray⟩,.string ⟨one.op.toArray⟩,.string ⟨one.cl.toArray⟩],.int .i64 q] W fun e w'=>e=.returned (.int .i64 (d.take one q).1)∧CtTo W w' B g t (d.take one q).2):=fun W0 W hT=>by
     obtain⟨vp1,vo1,h2⟩:=hT.ex
     exact q2z W B g t d vp1 vo1 h2 one ho q (by have:=okd.few; omega) okd.six (Pl.WfO.lt okd.wf)
    have HST:=(show Hid _ from hS)
    have HOK:=(show Hid _ from okc.out)
    clear hC1 hC2 f1 f2 hO hC hE hT hS okd ho hin hil h1
    have a0:p+A1.length=q:=by omega
    generalize (d.take one q)=r at HTake HST
    obtain⟨r1,r2⟩:=r
    obtain⟨o1,o2⟩:=o
    simp only at HST HTake HAdd hoz
    have a1:(p:Int)+(A1.length:Int)=(q:Int):=by omega
    have wA:IntKind.i64.wrap ((q:Int)+(O.size:Int))=(q:Int)+(O.size:Int):=by rw[IntKind.wrap_i64]; omega
    have wB:IntKind.i64.wrap ((q:Int)+(O.size:Int)+(A2.length:Int))=(q:Int)+(O.size:Int)+(A2.length:Int):=by rw[IntKind.wrap_i64]; omega
    have wC:IntKind.i64.wrap ((q:Int)+(O.size:Int)+(A2.length:Int)+(C.size:Int))=(tz:Int):=by rw[IntKind.wrap_i64]; omega
    clear hOs hCs hq hto hop hcl hi2 hj2 hA1 hA2 a0
    generalize hkI:(one.kind:Int)=kI at HRd HTake
    by_cases k2:one.kind=2
    ·obtain rfl:kI=2:=by omega
     rw[if_neg (by simpa using k2)]at hoo
     injection hoo with e3 e4
     subst e3 e4
     by_cases hr0:r1≠0
     ·rw[if_pos hr0]at HST
      have er:¬(r1:Int)=0:=by omega
      go_wp2_with fail
      go_quiet ((go_at_call 146; exact HC1.out _))
      go_wp2_with (go_at_call 146; refine Calls.mono (HC2.out _) ?_; rintro e w0 ⟨rfl,n2,rfl⟩)
      go_quiet (fail)
      go_wp2_with (first
       | (go_at_call 150; refine Calls.mono (HTrim.out _) ?_; rintro e w1 ⟨rfl,hb⟩; have HB1:Hid (Below wr.heap.size wr w1):=(qa3 (Below.refl _ wr) _).trans hb; clear hb)
       | (go_at_call 149; refine Calls.mono (HRd.out _ (qay.below HI.out.ml HB1.out)) ?_; rintro e w2 ⟨rfl,hb⟩; have HB2:Hid (Below wr.heap.size wr w2):=HB1.out.trans (hb.mono HB1.out.size); clear hb)
       | (go_at_call 147; have HB3:Hid (Below wr.heap.size wr (w2.alloc (.cells #[.int .i64 2,.int .i64 one.slip,.string ⟨one.name.toArray⟩,.string ⟨one.op.toArray⟩,.string ⟨one.cl.toArray⟩] 274))):=HB2.out.alloc HB2.out.size _; have HT3:Hid ((w2.alloc (.cells #[.int .i64 2,.int .i64 one.slip,.string ⟨one.name.toArray⟩,.string ⟨one.op.toArray⟩,.string ⟨one.cl.toArray⟩] 274)).heap[w2.heap.size]?=some (.cells #[.int .i64 2,.int .i64 one.slip,.string ⟨one.name.toArray⟩,.string ⟨one.op.toArray⟩,.string ⟨one.cl.toArray⟩] 274 (0,0))):=heap_alloc_new w2 _; refine Calls.mono (HAdd.out _ (CtAt.below HI.out.at' HB3.out)) ?_; rintro e w4 ⟨⟨r,rfl⟩,hT⟩; have HT4:Hid (CtTo (w2.alloc (.cells #[.int .i64 2,.int .i64 one.slip,.string ⟨one.name.toArray⟩,.string ⟨one.op.toArray⟩,.string ⟨one.cl.toArray⟩] 274)) w4 B g t d):=hT; have k12:=(hT.cur.keep _ _ _ _ HT3.out (by have:=CtAt.lt HI.out.at'; have:=HB2.out.size; omega) qhk qix).trans HT3.out; have t0:=qaa k12 0 _ rfl; have t1:=qaa k12 1 _ rfl; have t2:=qaa k12 2 _ rfl; have t3:=qaa k12 3 _ rfl; have t4:=qaa k12 4 _ rfl; clear hT k12)
       | (go_at_call 152; refine Calls.mono (HTake.out _ _ HT4.out) ?_; rintro e w5 ⟨rfl,hT⟩; have HT5:Hid (CtTo w4 w5 B g t r2):=hT; have z3:=(HB3.out.block _ (Array.getElem?_eq_some_iff.1 HI.out.slot).1).trans HI.out.slot; have z4:=(HT4.out.cur.keep _ _ _ _ z3 hsg qb3 qcb).trans z3; have z5:=(hT.cur.keep _ _ _ _ z4 hsg qb3 qcb).trans z4; obtain⟨s0,s1,fs0,fs1⟩:=qel z5; have HZ:=(show Hid _ from z5); clear z3 z4 z5 hT))
      have HCU:Hid (Cur B g w w5):=((HI.out.cur.trans (Cur.of_below HB3.out (by have:=CtAt.lt HI.out.at'; omega))).trans HT4.out.cur).trans HT5.out.cur
      refine HQ.out _ _ _ ?_
      simp only[Exit.jump]
      have hRR:R=((r1,q),[]):=by rw[← HI.out.rest,Pl.qnd HST.out]
      exact qrd (w':=w5) rfl rfl HZ.out HCU.out (by have:=CtAt.lt HI.out.at'; have:=HI.out.cur.below.size; omega) _ _ (by rw[hRR]) (by rw[hRR]) (fun h0=>by rw[hRR]at h0; exact absurd h0 hr0)
     ·rw[if_neg hr0]at HST
      have er:(r1:Int)=0:=by omega
      go_wp2_with fail
      go_quiet ((go_at_call 146; exact HC1.out _))
      go_wp2_with (go_at_call 146; refine Calls.mono (HC2.out _) ?_; rintro e w0 ⟨rfl,n2,rfl⟩)
      go_quiet (fail)
      go_wp2_with (first
       | (go_at_call 150; refine Calls.mono (HTrim.out _) ?_; rintro e w1 ⟨rfl,hb⟩; have HB1:Hid (Below wr.heap.size wr w1):=(qa3 (Below.refl _ wr) _).trans hb; clear hb)
       | (go_at_call 149; refine Calls.mono (HRd.out _ (qay.below HI.out.ml HB1.out)) ?_; rintro e w2 ⟨rfl,hb⟩; have HB2:Hid (Below wr.heap.size wr w2):=HB1.out.trans (hb.mono HB1.out.size); clear hb)
       | (go_at_call 147; have HB3:Hid (Below wr.heap.size wr (w2.alloc (.cells #[.int .i64 2,.int .i64 one.slip,.string ⟨one.name.toArray⟩,.string ⟨one.op.toArray⟩,.string ⟨one.cl.toArray⟩] 274))):=HB2.out.alloc HB2.out.size _; have HT3:Hid ((w2.alloc (.cells #[.int .i64 2,.int .i64 one.slip,.string ⟨one.name.toArray⟩,.string ⟨one.op.toArray⟩,.string ⟨one.cl.toArray⟩] 274)).heap[w2.heap.size]?=some (.cells #[.int .i64 2,.int .i64 one.slip,.string ⟨one.name.toArray⟩,.string ⟨one.op.toArray⟩,.string ⟨one.cl.toArray⟩] 274 (0,0))):=heap_alloc_new w2 _; refine Calls.mono (HAdd.out _ (CtAt.below HI.out.at' HB3.out)) ?_; rintro e w4 ⟨⟨r,rfl⟩,hT⟩; have HT4:Hid (CtTo (w2.alloc (.cells #[.int .i64 2,.int .i64 one.slip,.string ⟨one.name.toArray⟩,.string ⟨one.op.toArray⟩,.string ⟨one.cl.toArray⟩] 274)) w4 B g t d):=hT; have k12:=(hT.cur.keep _ _ _ _ HT3.out (by have:=CtAt.lt HI.out.at'; have:=HB2.out.size; omega) qhk qix).trans HT3.out; have t0:=qaa k12 0 _ rfl; have t1:=qaa k12 1 _ rfl; have t2:=qaa k12 2 _ rfl; have t3:=qaa k12 3 _ rfl; have t4:=qaa k12 4 _ rfl; clear hT k12)
       | (go_at_call 152; refine Calls.mono (HTake.out _ _ HT4.out) ?_; rintro e w5 ⟨rfl,hT⟩; have HT5:Hid (CtTo w4 w5 B g t r2):=hT; have z3:=(HB3.out.block _ (Array.getElem?_eq_some_iff.1 HI.out.slot).1).trans HI.out.slot; have z4:=(HT4.out.cur.keep _ _ _ _ z3 hsg qb3 qcb).trans z3; have z5:=(hT.cur.keep _ _ _ _ z4 hsg qb3 qcb).trans z4; obtain⟨s0,s1,fs0,fs1⟩:=qel z5; have HZ:=(show Hid _ from z5); clear z3 z4 z5 hT))
      have HCU:Hid (Cur B g w w5):=((HI.out.cur.trans (Cur.of_below HB3.out (by have:=CtAt.lt HI.out.at'; omega))).trans HT4.out.cur).trans HT5.out.cur
      go_step3
      refine HQ.out _ _ _ ?_
      simp only[Exit.jump]
      obtain⟨vp5,vo5,h5⟩:=HT5.out.ex
      obtain⟨ok5,lt5⟩:=Pl.qfi HOK.out HST.out
      refine⟨trivial,CutJ.of r2 _ vp5 vo5 (by rfl) ⟨h5,ok5,HCU.out,HZ.out,qay.cur (qay.cur (qay.below HI.out.ml HB3.out) HT4.out.cur.below hBg) HT5.out.cur.below hBg,by rw[← Pl.qne HOK.out HST.out]; exact HI.out.rest⟩,?_⟩
      simp[intOf]
      omega
    ·have e2:¬ kI=2:=by omega
     rw[if_pos k2]at hoo
     rw[hoo]at HLine
     by_cases hr0:r1≠0
     ·rw[if_pos hr0]at HST
      have er:¬(r1:Int)=0:=by omega
      go_wp2_with fail
      go_quiet ((go_at_call 146; exact HC1.out _))
      go_wp2_with (go_at_call 146; refine Calls.mono (HC2.out _) ?_; rintro e w0 ⟨rfl,n2,rfl⟩)
      go_quiet (fail)
      go_wp2_with (first
       | (go_at_call 150; refine Calls.mono (HTrim.out _) ?_; rintro e w1 ⟨rfl,hb⟩; have HB1:Hid (Below wr.heap.size wr w1):=(qa3 (Below.refl _ wr) _).trans hb; clear hb)
       | (go_at_call 149; refine Calls.mono (HRd.out _ (qay.below HI.out.ml HB1.out)) ?_; rintro e w2 ⟨rfl,hb⟩; have HB2:Hid (Below wr.heap.size wr w2):=HB1.out.trans (hb.mono HB1.out.size); clear hb)
       | (go_at_call 151; refine Calls.mono (HLine.out _ (CtAt.below HI.out.at' (HB2.out.alloc HB2.out.size _))) ?_; rintro e w3 ⟨rfl,hb⟩; have HB3:Hid (Below wr.heap.size wr w3):=(HB2.out.alloc HB2.out.size _).trans (hb.mono (by have:=HB2.out.size; simp; omega)); have HT3:Hid (w3.heap[w2.heap.size]?=some (.cells #[.int .i64 kI,.int .i64 one.slip,.string ⟨one.name.toArray⟩,.string ⟨one.op.toArray⟩,.string ⟨one.cl.toArray⟩] 274 (0,0))):=(hb.block _ (by simp)).trans (heap_alloc_new w2 _); clear hb)
       | (go_at_call 147; refine Calls.mono (HAdd.out _ (CtAt.below HI.out.at' HB3.out)) ?_; rintro e w4 ⟨⟨r,rfl⟩,hT⟩; have HT4:Hid (CtTo w3 w4 B g t d):=hT; have k12:=(hT.cur.keep _ _ _ _ HT3.out (by have:=CtAt.lt HI.out.at'; have:=HB2.out.size; omega) qhk qix).trans HT3.out; have t0:=qaa k12 0 _ rfl; have t1:=qaa k12 1 _ rfl; have t2:=qaa k12 2 _ rfl; have t3:=qaa k12 3 _ rfl; have t4:=qaa k12 4 _ rfl; clear hT k12)
       | (go_at_call 152; refine Calls.mono (HTake.out _ _ HT4.out) ?_; rintro e w5 ⟨rfl,hT⟩; have HT5:Hid (CtTo w4 w5 B g t r2):=hT; have z3:=(HB3.out.block _ (Array.getElem?_eq_some_iff.1 HI.out.slot).1).trans HI.out.slot; have z4:=(HT4.out.cur.keep _ _ _ _ z3 hsg qb3 qcb).trans z3; have z5:=(hT.cur.keep _ _ _ _ z4 hsg qb3 qcb).trans z4; obtain⟨s0,s1,fs0,fs1⟩:=qel z5; have HZ:=(show Hid _ from z5); clear z3 z4 z5 hT))
      have HCU:Hid (Cur B g w w5):=((HI.out.cur.trans (Cur.of_below HB3.out (by have:=CtAt.lt HI.out.at'; omega))).trans HT4.out.cur).trans HT5.out.cur
      refine HQ.out _ _ _ ?_
      simp only[Exit.jump]
      have hRR:R=((r1,q),[]):=by rw[← HI.out.rest,Pl.qnd HST.out]
      exact qrd (w':=w5) rfl rfl HZ.out HCU.out (by have:=CtAt.lt HI.out.at'; have:=HI.out.cur.below.size; omega) _ _ (by rw[hRR]) (by rw[hRR]) (fun h0=>by rw[hRR]at h0; exact absurd h0 hr0)
     ·rw[if_neg hr0]at HST
      have er:(r1:Int)=0:=by omega
      go_wp2_with fail
      go_quiet ((go_at_call 146; exact HC1.out _))
      go_wp2_with (go_at_call 146; refine Calls.mono (HC2.out _) ?_; rintro e w0 ⟨rfl,n2,rfl⟩)
      go_quiet (fail)
      go_wp2_with (first
       | (go_at_call 150; refine Calls.mono (HTrim.out _) ?_; rintro e w1 ⟨rfl,hb⟩; have HB1:Hid (Below wr.heap.size wr w1):=(qa3 (Below.refl _ wr) _).trans hb; clear hb)
       | (go_at_call 149; refine Calls.mono (HRd.out _ (qay.below HI.out.ml HB1.out)) ?_; rintro e w2 ⟨rfl,hb⟩; have HB2:Hid (Below wr.heap.size wr w2):=HB1.out.trans (hb.mono HB1.out.size); clear hb)
       | (go_at_call 151; refine Calls.mono (HLine.out _ (CtAt.below HI.out.at' (HB2.out.alloc HB2.out.size _))) ?_; rintro e w3 ⟨rfl,hb⟩; have HB3:Hid (Below wr.heap.size wr w3):=(HB2.out.alloc HB2.out.size _).trans (hb.mono (by have:=HB2.out.size; simp; omega)); have HT3:Hid (w3.heap[w2.heap.size]?=some (.cells #[.int .i64 kI,.int .i64 one.slip,.string ⟨one.name.toArray⟩,.string ⟨one.op.toArray⟩,.string ⟨one.cl.toArray⟩] 274 (0,0))):=(hb.block _ (by simp)).trans (heap_alloc_new w2 _); clear hb)
       | (go_at_call 147; refine Calls.mono (HAdd.out _ (CtAt.below HI.out.at' HB3.out)) ?_; rintro e w4 ⟨⟨r,rfl⟩,hT⟩; have HT4:Hid (CtTo w3 w4 B g t d):=hT; have k12:=(hT.cur.keep _ _ _ _ HT3.out (by have:=CtAt.lt HI.out.at'; have:=HB2.out.size; omega) qhk qix).trans HT3.out; have t0:=qaa k12 0 _ rfl; have t1:=qaa k12 1 _ rfl; have t2:=qaa k12 2 _ rfl; have t3:=qaa k12 3 _ rfl; have t4:=qaa k12 4 _ rfl; clear hT k12)
       | (go_at_call 152; refine Calls.mono (HTake.out _ _ HT4.out) ?_; rintro e w5 ⟨rfl,hT⟩; have HT5:Hid (CtTo w4 w5 B g t r2):=hT; have z3:=(HB3.out.block _ (Array.getElem?_eq_some_iff.1 HI.out.slot).1).trans HI.out.slot; have z4:=(HT4.out.cur.keep _ _ _ _ z3 hsg qb3 qcb).trans z3; have z5:=(hT.cur.keep _ _ _ _ z4 hsg qb3 qcb).trans z4; obtain⟨s0,s1,fs0,fs1⟩:=qel z5; have HZ:=(show Hid _ from z5); clear z3 z4 z5 hT))
      have HCU:Hid (Cur B g w w5):=((HI.out.cur.trans (Cur.of_below HB3.out (by have:=CtAt.lt HI.out.at'; omega))).trans HT4.out.cur).trans HT5.out.cur
      go_step3
      refine HQ.out _ _ _ ?_
      simp only[Exit.jump]
      obtain⟨vp5,vo5,h5⟩:=HT5.out.ex
      obtain⟨ok5,lt5⟩:=Pl.qfi HOK.out HST.out
      refine⟨trivial,CutJ.of r2 _ vp5 vo5 (by rfl) ⟨h5,ok5,HCU.out,HZ.out,qay.cur (qay.cur (qay.below HI.out.ml HB3.out) HT4.out.cur.below hBg) HT5.out.cur.below hBg,by rw[← Pl.qne HOK.out HST.out]; exact HI.out.rest⟩,?_⟩
      simp[intOf]
      omega
theorem qz2:(Tryz.prog.info? 5).map (fun i=>(i.zero,i.size,i.bytes))=some (some (.int .u8 0),1,1):=by kernel_rfl
set_option maxRecDepth 100000 in
set_option maxHeartbeats 1600000 in
theorem qrg (s:ByteArray) (w:World) (hs:s.size≤100000) :
  Calls Tryz.prog 103 #[.string s] w fun e w'=>e=.returned (.string s)∧Below w.heap.size w w':=by
 by_cases h0:s.size=0
 ·obtain rfl:s=⟨#[]⟩:=ByteArray.ext (Array.eq_empty_of_size_eq_zero h0)
  go_enter Tryz.func103,Tryz.ntmps103
  go_wp2_with fail
  go_ret
  exact⟨rfl,Below.refl _ _⟩
 have c0:¬(s.size:Int)=0:=by omega
 have c1:(0:Int)<(s.size:Int):=by omega
 obtain⟨i0,hi,hz0,hz1,hz2⟩:=info_parts qz2
 obtain⟨W1,hmk,hown,hgr⟩:=run_makeSlice_full (P:=Tryz.prog) w w.heap.size 82 5 i0 (.int .u8 0) 1 Tryz.underlying82 hi hz0 hz1 .i64 .i64 s.size (by omega) (by rw[hz2]; omega) (by unfold maxLen; omega) (Nat.le_refl _)
 obtain⟨cur,hcur,hsz⟩:∃ cur,W1.heap[w.heap.size]?=some (.cells cur 5 (0,0))∧cur.size=s.size:=by
  rcases hown.2 with ⟨q,_⟩ | ⟨g,cap,cur,hv,_,hg,_,_,hs,_⟩
  ·cases q
  ·injection hv with e1 e2 e3
   injection e1 with e1
   injection e1 with e1
   subst e1 e3
   exact⟨cur,hg,by omega⟩
 have hcp:=fun ty=>Lib.run_copy_row_string (P:=Tryz.prog) W1 82 9 ty 5 w.heap.size 0 s.size s.size s cur 5 Tryz.underlying82 (by rw[hi]; simp[hz1]) hcur (Nat.le_refl _) (by omega)
 have hrow:(cur.toList.take 0++Lib.byteCells s.data.toList++cur.toList.drop (0+s.size))=Lib.byteCells s.data.toList:=by
  rw[List.take_zero,List.nil_append,List.drop_of_length_le (by simp[hsz]),List.append_nil]
 rw[hrow]at hcp
 have hb1:Below w.heap.size w W1:=⟨hgr.os,hgr.tape,hgr.output,hgr.size,fun k hk=>hgr.block k hk (by simp)⟩
 have hh2:(W1.setRow w.heap.size (Lib.byteCells s.data.toList).toArray).heap[w.heap.size]?=some (.cells (Lib.byteCells s.data.toList).toArray 5 (0,0)):=setRow_heap W1 _ _ _ _ _ hcur
 have hb2:Below w.heap.size w (W1.setRow w.heap.size (Lib.byteCells s.data.toList).toArray):=⟨hb1.os,hb1.tape,hb1.output,by simpa using hb1.size,fun k hk=>by
  refine Eq.trans ?_ (hb1.block k hk)
  simp only[World.setRow,Array.getElem?_modify]
  rw[if_neg (by omega)]⟩
 clear hcur hrow hown hgr
 generalize W1.setRow w.heap.size (Lib.byteCells s.data.toList).toArray=W2 at hcp hh2 hb2
 have hus:=fun pt it ty hp=>Lib.run_unsafeString_row (P:=Tryz.prog) W2 pt it ty 5 hp (by kernel_rfl) w.heap.size s.size (by simp[World.shape?,hh2,Lib.byteCells]) s.data.toList (fun q=>h0 (by have:=congrArg List.length q; simpa using this)) (by simp) (by simp; omega) (fun j x hx=>by
  have e:(⟨w.heap.size,0,none⟩:Addr).add j=⟨w.heap.size,j,none⟩:=by simp only[Addr.add,Nat.zero_add]; split<;>simp_all
  rw[e]
  exact qaa hh2 j _ (by simp[Lib.byteCells,hx]))
 have hl:(s.data.toList.length:Int)=(s.size:Int):=by simp
 have hS:(⟨s.data.toList.toArray⟩:ByteArray)=s:=by cases s; simp
 simp only[hl,hS]at hus
 have HB:=(show Hid _ from Lib.below_freeze hb2 (p:=⟨w.heap.size,0,none⟩) (Nat.le_refl _) s.data.toList.length)
 have e1:=hcp 3
 have e2:=hus 209 3 9 Tryz.underlying209
 clear hcp hus hh2 hb1 hb2 hi hz0 hz1 hz2 hl hS
 go_enter Tryz.func103,Tryz.ntmps103
 go_wp2_with fail
 go_ret
 exact⟨rfl,HB.out⟩
theorem qtz (s:ByteArray) (w:World) (hs:s.size≤100000) :
  Calls Tryz.prog 73 #[.string s] w fun e w'=>e=.returned (.string s)∧Below w.heap.size w w':=by
 go_enter Tryz.func73,Tryz.ntmps73
 go_wp2_with (go_at_call 103; refine(qrg s _ hs).mono ?_; rintro e w' ⟨rfl,hb⟩)
 go_ret
 exact⟨rfl,hb⟩
end Go.Proofs.YtfkhljmiehdgmaaGreatDoor
