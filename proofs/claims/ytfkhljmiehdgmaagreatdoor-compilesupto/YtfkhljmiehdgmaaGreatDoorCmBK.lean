/-
  Steps of the proof.
-/
import Derived.Test.YtfkhljmiehdgmaaGreatDoorCmBH
set_option maxRecDepth 100000
set_option maxHeartbeats 40000000
namespace Go.Proofs.YtfkhljmiehdgmaaGreatDoor
open Go.RowKit
variable{P:Program}{a:Act}{w wr w':World}{B g:Nat}{t:List UInt8}{R:(Nat×Nat)×List Pl.Pt}{c:Pl.Ct}{vp vo:Value}
theorem qrq{pre rest:Code}{Q:Exit->Act->World->Prop}(l:Nat)(J:Act->World->Prop)(μ:Act->World->Nat)(hf:findLabel pre l=none)
  (ha:pre.wp P (fun e a' w'=>e=.normal/\J a' w') a w)
  (pass:∀a w,J a w->rest.wp P (Exit.jump l (fun a' w'=>J a' w'/\μ a' w'<μ a w) Q) a w):(Code.scope (pre.seq ((Code.label l).seq rest))).wp P Q a w:=by
 refine wp_scope_jumps l J μ (rest:=Code.skip.seq rest) (by simp[findLabel,hf]) ?_ (fun a w hJ=>wp_seq (wp_skip (pass a w hJ)));refine wp_seq (wp_mono ha ?_);rintro e a' w' ⟨rfl,hJ⟩;show((Code.label l).seq rest).wp P (Exit.jump l J Q) a' w';refine wp_seq (wp_label ?_);show rest.wp P (Exit.jump l J Q) a' w';refine wp_mono (pass a' w' hJ) ?_;intro e a'' w'' h;cases e<;>first|exact⟨h.1,h.2.1⟩|exact h
theorem q8g{c:Code}{Q:Exit->Act->World->Prop}(h:∀Q':Exit->Act->World->Prop,(∀e a w,Q e a w->Q' e a w)->c.wp P Q' a w):c.wp P Q a w:=h Q (fun _ _ _ q=>q)
structure CutI(w wr:World)(B g:Nat)(t:List UInt8)(R:(Nat×Nat)×List Pl.Pt)(c:Pl.Ct)(p:Nat)(vp vo:Value):Prop where
 at':CtAt wr B g t c vp vo
 ok:Pl.CtOk t c p
 cur:Cur B g w wr
 slot:wr.heap[w.heap.size]?=some (.cells #[.int .i64 0,.int .i64 0] 169 (0,0))
 ml:qaz wr
 rest:c.rest t p=R
def CutJ(w:World)(B g:Nat)(t:List UInt8)(R:(Nat×Nat)×List Pl.Pt)(a:Act)(wr:World):Prop:=
 ∃(c:Pl.Ct) (p:Nat) (vp vo:Value) (u:Nat->Value),a={ tmps:=#[.pointer (some ⟨g,0,none⟩),u 1,.pointer (some ⟨w.heap.size,0,none⟩),.int .i64 p,u 4,u 5,u 6,u 7,u 8,u 9,u 10,u 11,u 12,u 13,u 14,u 15,u 16,u 17,u 18,u 19,u 20,u 21,u 22,u 23,u 24,u 25,u 26,u 27,u 28,u 29,u 30,u 31,u 32,u 33,u 34,u 35,u 36,u 37,u 38,u 39,u 40,u 41,u 42,u 43,u 44,u 45,u 46,u 47,u 48,u 49,u 50,u 51,u 52,u 53,u 54,u 55,u 56,u 57,u 58,u 59,u 60,u 61,u 62,u 63,u 64,u 65,u 66,u 67,u 68,u 69,u 70,u 71,u 72,u 73,u 74,u 75,u 76,u 77,u 78,u 79,u 80,u 81,u 82,u 83,u 84,u 85,u 86,u 87,u 88,u 89,u 90,u 91,u 92,u 93,u 94,u 95,u 96,u 97,u 98,u 99,u 100,u 101,u 102,u 103,u 104,u 105],defers:=[] }/\CutI w wr B g t R c p vp vo
theorem CutJ.of{tm:Array Value}(c:Pl.Ct)(p:Nat)(vp vo:Value)(hf:tm=#[.pointer (some ⟨g,0,none⟩),tm.getD 1 undef,.pointer (some ⟨w.heap.size,0,none⟩),.int .i64 p,tm.getD 4 undef,tm.getD 5 undef,tm.getD 6 undef,tm.getD 7 undef,tm.getD 8 undef,tm.getD 9 undef,tm.getD 10 undef,tm.getD 11 undef,tm.getD 12 undef,tm.getD 13 undef,tm.getD 14 undef,tm.getD 15 undef,tm.getD 16 undef,tm.getD 17 undef,tm.getD 18 undef,tm.getD 19 undef,tm.getD 20 undef,tm.getD 21 undef,tm.getD 22 undef,tm.getD 23 undef,tm.getD 24 undef,tm.getD 25 undef,tm.getD 26 undef,tm.getD 27 undef,tm.getD 28 undef,tm.getD 29 undef,tm.getD 30 undef,tm.getD 31 undef,tm.getD 32 undef,tm.getD 33 undef,tm.getD 34 undef,tm.getD 35 undef,tm.getD 36 undef,tm.getD 37 undef,tm.getD 38 undef,tm.getD 39 undef,tm.getD 40 undef,tm.getD 41 undef,tm.getD 42 undef,tm.getD 43 undef,tm.getD 44 undef,tm.getD 45 undef,tm.getD 46 undef,tm.getD 47 undef,tm.getD 48 undef,tm.getD 49 undef,tm.getD 50 undef,tm.getD 51 undef,tm.getD 52 undef,tm.getD 53 undef,tm.getD 54 undef,tm.getD 55 undef,tm.getD 56 undef,tm.getD 57 undef,tm.getD 58 undef,tm.getD 59 undef,tm.getD 60 undef,tm.getD 61 undef,tm.getD 62 undef,tm.getD 63 undef,tm.getD 64 undef,tm.getD 65 undef,tm.getD 66 undef,tm.getD 67 undef,tm.getD 68 undef,tm.getD 69 undef,tm.getD 70 undef,tm.getD 71 undef,tm.getD 72 undef,tm.getD 73 undef,tm.getD 74 undef,tm.getD 75 undef,tm.getD 76 undef,tm.getD 77 undef,tm.getD 78 undef,tm.getD 79 undef,tm.getD 80 undef,tm.getD 81 undef,tm.getD 82 undef,tm.getD 83 undef,tm.getD 84 undef,tm.getD 85 undef,tm.getD 86 undef,tm.getD 87 undef,tm.getD 88 undef,tm.getD 89 undef,tm.getD 90 undef,tm.getD 91 undef,tm.getD 92 undef,tm.getD 93 undef,tm.getD 94 undef,tm.getD 95 undef,tm.getD 96 undef,tm.getD 97 undef,tm.getD 98 undef,tm.getD 99 undef,tm.getD 100 undef,tm.getD 101 undef,tm.getD 102 undef,tm.getD 103 undef,tm.getD 104 undef,tm.getD 105 undef])(hI:CutI w wr B g t R c p vp vo):CutJ w B g t R { tmps:=tm,defers:=[] } wr:=
 ⟨c,p,vp,vo,fun i=>tm.getD i undef,congrArg (fun x=>({ tmps:=x,defers:=[] }:Act)) hf,hI⟩
def CutP(w:World)(B g:Nat)(t:List UInt8)(R:(Nat×Nat)×List Pl.Pt)(e:Ending)(w':World):Prop:=
 e=.returned (qgx R.1.1 R.1.2)/\Cur B g w w'/\(R.1.1=0->∃c vp vo,CtAt w' B g t c vp vo/\c.parts=R.2)
def qd2(t:List UInt8):Prop:=∀(L:List UInt8) (w:World),L.length<=2000->(∀b∈L,b∈t)->qaz w ->
 Calls Tryz.prog 149 #[.string ⟨L.toArray⟩] w fun e w'=>e=.returned (qec (Pl.qa9 L))/\Below w.heap.size w w'
theorem CutI.drewN{p:Nat}(h:CutI w wr B g t R c p vp vo)(n:Nat):CutI w (wr.drewN n) B g t R c p vp vo:=
 ⟨h.at'.kept fun _ _=>rfl,h.ok,⟨qay h.cur.below n,h.cur.keep⟩,h.slot,h.ml,h.rest⟩
theorem qia:(274:TypeId)≠229:=by decide
theorem qjo:(274:TypeId)≠3:=by decide
theorem qb5:(169:TypeId)≠229:=by decide
theorem qcp:(169:TypeId)≠3:=by decide
theorem qz6:(169:TypeId)≠222:=by decide
theorem CtAt.setSlip(h:CtAt w B g t c vp vo){k:Nat}{cs:Array Value}{fz:Nat×Nat}(hs:w.heap[k]?=some (.cells cs 169 fz))(j:Nat)(v:Value):CtAt (w.setCell ⟨k,j,none⟩ v) B g t c vp vo:=by
 have ha:∀i,i≠k->(w.setCell ⟨k,j,none⟩ v).heap[i]?=w.heap[i]?:=fun i hi=>Below.heap_setCell _ _ _ _ hi;refine⟨(ha g (qae h.blk hs qz6.symm)).trans h.blk,qac h.parts fun i hi=>ha i ?_,qac h.opened fun i hi=>ha i ?_,h.le⟩
 ·obtain⟨cur,hc⟩:=qad h.parts i hi
  exact qae hc hs qb5.symm
 ·obtain⟨cur,hc⟩:=qad h.opened i hi
  exact qae hc hs qcp.symm
theorem Cur.setNew(h:Cur B g w w')(hB:B<=w.heap.size)(j:Nat)(v:Value):Cur B g w (w'.setCell ⟨w.heap.size,j,none⟩ v):=
 ⟨h.below.setCell (p:=⟨w.heap.size,j,none⟩) hB v,fun k cs t fz hk h1 h2 h3=>(Below.heap_setCell _ _ _ _ (by have:=(Array.getElem?_eq_some_iff.1 hk).1;simp only;omega)).trans (h.keep k cs t fz hk h1 h2 h3)⟩
theorem qpd{t:TypeId}{u0 u1:Value}(h:w.heap[g]?=some (.cells #[u0,u1] t (0,0)))(v0 v1:Value) :
  ((w.setCell ⟨g,0,none⟩ v0).setCell ⟨g,1,none⟩ v1).heap[g]?=some (.cells #[v0,v1] t (0,0)):=
 heap_setCell_same _ _ _ _ _ _ (heap_setCell_same _ _ _ _ _ _ h)
theorem qs8(hp:a.tmps.getD 2 undef=.pointer (some ⟨w.heap.size,0,none⟩))(hd:a.defers=[])(hs:w'.heap[w.heap.size]?=some (.cells #[.int .i64 0,.int .i64 0] 169 (0,0)))(hc:Cur B g w w')(hB:B<=w.heap.size)
  (k q:Int) (hk:k=R.1.1) (hq:q=R.1.2) (hx:R.1.1=0->∃c vp vo,CtAt w' B g t c vp vo/\c.parts=R.2) :
  bodyPost Tryz.prog Tryz.f104 (CutP w B g t R) .ret a ((w'.setCell ⟨w.heap.size,0,none⟩ (.int .i64 k)).setCell ⟨w.heap.size,1,none⟩ (.int .i64 q)):=by
 subst hk hq;refine bodyPost_ret (qbk Tryz.results104 _ _ w.heap.size _ _ hp (qaa (qpd hs _ _)) Tryz.underlying169 rfl (by kernel_rfl)) hd ?_;refine⟨rfl,(hc.setNew hB _ _).setNew hB _ _,fun h0=>?_⟩;obtain⟨c,vp,vo,h1,h2⟩:=hx h0;exact⟨c,vp,vo,(h1.setSlip hs _ _).setSlip (heap_setCell_same _ _ _ _ _ _ hs) _ _,h2⟩
theorem qe2{k:Nat}(hs:w'.heap[k]?=some (.cells #[.int .i64 0,.int .i64 0] 169 (0,0))):w'.cell? ⟨k,0,none⟩=some (.int .i64 0)/\w'.cell? ⟨k,1,none⟩=some (.int .i64 0)/\w'.frozen? ⟨k,0,none⟩=false/\w'.frozen? ⟨k,1,none⟩=false:=by
 have c:=qaa hs;exact⟨c 0 _ rfl,c 1 _ rfl,by simp[World.frozen?,hs],by simp[World.frozen?,hs]⟩
theorem qaz.cur(h:qaz w)(hb:Below B w w')(ha:11<B):qaz w':=by
 obtain⟨m,hm⟩:=h;exact⟨m,(World.cell?_of_block (hb.block _ ha)).trans hm⟩
theorem q3s(l cs:List UInt8):∀b∈Lib.trimS l cs,b∈l:=by
 intro b hb;unfold Lib.trimS Lib.trimLeftS Lib.trimRightS at hb;have h1:=(List.dropWhile_sublist _).subset hb;rw[List.mem_reverse]at h1;have h2:=(List.dropWhile_sublist _).subset h1;exact List.mem_reverse.1 h2
theorem q5k(l cs:List UInt8):(Lib.trimS l cs).length<=l.length:=by
 unfold Lib.trimS;exact Nat.le_trans (Pl.qib _ _) (Pl.qk8 _ _)
theorem q90(w:World)(B g:Nat)(t:List UInt8)(c0:Pl.Ct)(vp0 vo0:Value)(h:CtAt w B g t c0 vp0 vo0)(Hw:Pl.CtOk t c0 0)(hm:qaz w)(ht:t.length<=2000)(hR:qd2 t)(hr:11<B) :
  Calls Tryz.prog 104 #[.pointer (some ⟨g,0,none⟩)] w (CutP w B g t (c0.rest t 0)):=by
 have HI:Hid (CutI w (w.alloc (.cells #[.int .i64 0,.int .i64 0] 169)) B g t (c0.rest t 0) c0 0 vp0 vo0):=
  ⟨h.alloc _,Hw,Cur.of_below (ba _) (Nat.le_trans h.le (Nat.le_of_lt h.lt)),heap_alloc_new w _,hm.below (ba _),rfl⟩
 have HR:=hd hR;have HK:g<w.heap.size:=h.lt;clear h Hw hm hR;generalize he:c0.rest t 0=R at HI |-;clear he;go_enter Tryz.func104,Tryz.ntmps104
 go_wp2_with fail
 refine qrq 0 (CutJ w B g t R) (fun a' _=>t.length - (intOf (a'.tmps.getD 3 undef)).toNat) rfl ?_ ?_
 ·go_wp2_with fail
  exact⟨c0,0,vp0,vo0,fun _=>undef,rfl,HI.out⟩
 ·rintro a' wr ⟨c,p,vp,vo,u,rfl,hI⟩
  clear HI;have HI:=hd hI;refine q8g (fun Q2 hx=>?_);have HQ:=hd hx;clear hx;obtain⟨m,hm⟩:=hI.ml;obtain⟨T,hT⟩:∃T,T=(⟨t.toArray⟩:ByteArray):=⟨_,rfl⟩;have hL:T.size=t.length:=by rw[hT];exact qbz t
  have b0:=hI.at'.cell 0 _ rfl;have b1:=hI.at'.cell 1 _ rfl;have b2:=hI.at'.cell 2 _ rfl;unfold bs at b0 b1 b2;rw[<-hT]at b0;have hO:(⟨c.op.toArray⟩:ByteArray).data.toList=c.op:=rfl;have hC:(⟨c.cl.toArray⟩:ByteArray).data.toList=c.cl:=rfl;generalize (⟨c.op.toArray⟩:ByteArray)=O at b1 hO;generalize (⟨c.cl.toArray⟩:ByteArray)=C at b2 hC;have hE:(T.extract p t.length).data.toList=t.drop p:=by rw[hT,qm8]
  have Hf:=fun n=>Tryz.strings_Cut (T.extract p t.length) O m (wr.drewN n) (by rw[hT,qgu,qbz];simp;omega) hm;rw[hE,hO]at Hf;have hD:=hI.ok.le;have c1:(p:Int)<=(t.length:Int):=by omega
  have hj:w.heap.size≠g:=by omega
  have hB:=hI.at'.le;have okc:=hd hI.ok;clear hI;by_cases f1:(Lib.cut (t.drop p) c.op).2.2=true
  rotate_left
  ·have f1:=Bool.eq_false_iff.2 f1
   have hS:=Pl.qlc f1;have okd:=Pl.qh6 okc.out t.length t.length hD (Nat.le_refl _) (Nat.le_refl _);have he:R=((c.addText t p t.length).left,(c.addText t p t.length).parts):=by rw[<-HI.out.rest,Pl.qt8 hS]
   rw[f1]at Hf;generalize (Lib.cut (t.drop p) c.op).1=A1 at Hf;generalize (Lib.cut (t.drop p) c.op).2.1=R1 at Hf;have Hj:Hid (∀n,Calls Tryz.prog 146 #[.string (T.extract p t.length),.string O] (wr.drewN n) fun e w''=>e=.returned (.tuple #[.string ⟨A1.toArray⟩,.string ⟨R1.toArray⟩,.bool false])/\∃m,w''=wr.drewN m):=fun n=>(Hf n).mono fun e w'' ⟨h1,q,h2⟩=>⟨h1,n+q,by rw[h2,World.drewN_drewN]⟩;have Hb:Hid (∀n,Calls Tryz.prog 147 #[.pointer (some ⟨g,0,none⟩),.int .i64 p,.int .i64 t.length] (wr.drewN n) fun e w'=>(∃r,e=.returned r)/\CtTo (wr.drewN n) w' B g t (c.addText t p t.length)):=fun n=>by
    exact qpv (wr.drewN n) B g t c vp vo p t.length (HI.out.drewN n).at' (Nat.le_refl _) (by have:=okc.out.few;omega)
   generalize c.addText t p t.length=d at okd he Hb;have HD:=hd okd;have hk:=hd he;clear Hf hS okd he f1 hO hC hE hT;have hp:Hid (∀W0 W,CtTo W0 W B g t d->Calls Tryz.prog 148 #[.pointer (some ⟨g,0,none⟩)] W fun e w'=>e=.returned (.agg #[.int .i64 (d.left.1:Nat),.int .i64 (d.left.2:Nat)])/\Below W.heap.size W w'):=fun W0 W hT=>by
    obtain⟨vp1,vo1,h1⟩:=hT.ex;exact qup W B g t d vp1 vo1 h1 (Pl.WfO.lt HD.out.wf) (by have:=Pl.CtOk.few HD.out;omega) (Pl.CtOk.six HD.out)
   go_wp2_with fail
   go_quiet ((go_at_call 146;exact Hj.out _))
   go_wp2_with (first
    |(go_at_call 147;refine Calls.mono (Hb.out _) ?_;rintro e w1 ⟨⟨r,rfl⟩,Hx⟩;have hn:=hd Hx;clear Hx)
    | (go_at_call 148;refine Calls.mono (hp.out _ _ hn.out) ?_;rintro e w2 ⟨rfl,hb⟩;have Hs:=(hb.block _ (Nat.lt_of_lt_of_le (Array.getElem?_eq_some_iff.1 (HI.out.slot)).1 (CtTo.cur hn.out).below.size)).trans (((CtTo.cur hn.out).keep _ _ _ _ HI.out.slot hj qb5 qcp).trans HI.out.slot);obtain⟨s0,s1,fs0,fs1⟩:=qe2 Hs;have HE:=hd Hs;have ha:=hd hb;clear Hs hb))
   refine HQ.out _ _ _ ?_;simp only[Exit.jump];refine qs8 rfl rfl HE.out ((Cur.trans (CutI.drewN HI.out _).cur (CtTo.cur hn.out)).trans (Cur.of_below ha.out (by have:=(CtTo.cur hn.out).below.size;have:=HI.out.cur.below.size;have e:(wr.drewN nq).heap.size=wr.heap.size:=rfl;have:=(CtAt.lt HI.out.at');omega))) (by omega) _ _ (by rw[hk.out]) (by rw[hk.out]) (fun _=>?_);obtain⟨vp1,vo1,h1⟩:=CtTo.ex hn.out;exact⟨d,vp1,vo1,h1.below ha.out,by rw[hk.out]⟩
  ·obtain⟨i1,hy,Ht,Hy,Hp,Hr⟩:=Pl.qjg _ _ f1
   rw[List.length_drop]at Ht;by_cases f2:(Lib.cut (Lib.cut (t.drop p) c.op).2.1 c.cl).2.2=true
   rotate_left
   ·have f2:=Bool.eq_false_iff.2 f2
    have hS:=Pl.qgm f1 f2;have he:R=((2,p+(Lib.cut (t.drop p) c.op).1.length),[]):=by rw[<-HI.out.rest,Pl.qer hS]
    have Hk:=fun n=>Tryz.strings_Cut (⟨(Lib.cut (t.drop p) c.op).2.1.toArray⟩:ByteArray) C m (wr.drewN n) (by rw[qbz,Hp];simp;omega) hm;rw[f1]at Hf;have hl:(⟨(Lib.cut (t.drop p) c.op).2.1.toArray⟩:ByteArray).data.toList=(Lib.cut (t.drop p) c.op).2.1:=rfl;rw[hl,hC,f2]at Hk;clear Hp Hy hy hS hl;generalize (Lib.cut (t.drop p) c.op).1=A1 at *;generalize (Lib.cut (t.drop p) c.op).2.1=R1 at *;generalize (Lib.cut R1 c.cl).1=A2 at *;generalize (Lib.cut R1 c.cl).2.1=R2 at *;have Hj:Hid (∀n,Calls Tryz.prog 146 #[.string (T.extract p t.length),.string O] (wr.drewN n) fun e w''=>e=.returned (.tuple #[.string ⟨A1.toArray⟩,.string ⟨R1.toArray⟩,.bool true])/\∃m,w''=wr.drewN m):=fun n=>(Hf n).mono fun e w'' ⟨h1,q,h2⟩=>⟨h1,n+q,by rw[h2,World.drewN_drewN]⟩;have Hn:Hid (∀n,Calls Tryz.prog 146 #[.string ⟨R1.toArray⟩,.string C] (wr.drewN n) fun e w''=>e=.returned (.tuple #[.string ⟨A2.toArray⟩,.string ⟨R2.toArray⟩,.bool false])/\∃m,w''=wr.drewN m):=fun n=>(Hk n).mono fun e w'' ⟨h1,q,h2⟩=>⟨h1,n+q,by rw[h2,World.drewN_drewN]⟩;have hk:=hd he;obtain⟨s0,s1,fs0,fs1⟩:=qe2 HI.out.slot;have a0:p+A1.length<=2000:=by omega
    clear Hf Hk he f1 f2 hO hC hE hT Ht Hr;go_wp2_with fail
    go_quiet ((go_at_call 146;exact Hj.out _))
    go_wp2_with (go_at_call 146;refine Calls.mono (Hn.out _) ?_;rintro e w1 ⟨rfl,n2,rfl⟩)
    refine HQ.out _ _ _ ?_;simp only[Exit.jump];refine qs8 (w':=wr.drewN n2) rfl rfl HI.out.slot (CutI.drewN HI.out _).cur (by have:=(CtAt.lt HI.out.at');have:=HI.out.cur.below.size;omega) _ _ (by rw[hk.out];rfl) (by rw[hk.out];rfl) (fun h0=>by rw[hk.out]at h0;cases h0)
   ·obtain⟨i2,hF,hz,Hz,HF,hu⟩:=Pl.qjg _ _ f2
    have hA:∀b∈Lib.trimS (Lib.cut (Lib.cut (t.drop p) c.op).2.1 c.cl).1 Pl.qah,b∈t:=fun b hb=>by
     have h1:=q3s _ _ b hb;rw[Hz]at h1;have h2:=List.mem_of_mem_take h1;rw[Hp]at h2;exact List.mem_of_mem_drop (List.mem_of_mem_drop h2)
    have HA:=q5k (Lib.cut (Lib.cut (t.drop p) c.op).2.1 c.cl).1 Pl.qah;obtain⟨one,h1⟩:∃one,Pl.qa9 (Lib.trimS (Lib.cut (Lib.cut (t.drop p) c.op).2.1 c.cl).1 Pl.qah)=one:=⟨_,rfl⟩;have ho:=Pl.qos (Lib.trimS (Lib.cut (Lib.cut (t.drop p) c.op).2.1 c.cl).1 Pl.qah);rw[h1]at ho;obtain⟨q,hq⟩:∃q,p+(Lib.cut (t.drop p) c.op).1.length=q:=⟨_,rfl⟩;obtain⟨tz,Hu⟩:∃tz,q+c.op.length+(Lib.cut (Lib.cut (t.drop p) c.op).2.1 c.cl).1.length+c.cl.length=tz:=⟨_,rfl⟩;obtain⟨o,Ho⟩:∃o,(if one.kind≠2 then Pl.qeg t q tz else(q,tz))=o:=⟨_,rfl⟩;have hS:=Pl.qnq f1 f2 one h1 q tz hq Hu o Ho;have hv:(Lib.cut (t.drop p) c.op).2.1.length=t.length - (p+(i1+c.op.length)):=by rw[Hp];simp
    have Hk:=fun n=>Tryz.strings_Cut (⟨(Lib.cut (t.drop p) c.op).2.1.toArray⟩:ByteArray) C m (wr.drewN n) (by rw[qbz,hv];omega) hm;rw[f1]at Hf;have hl:(⟨(Lib.cut (t.drop p) c.op).2.1.toArray⟩:ByteArray).data.toList=(Lib.cut (t.drop p) c.op).2.1:=rfl;rw[hl,hC,f2]at Hk;rw[Hr]at hq;rw[hu]at Hu HA;rw[hv]at hz;have hG:=(Pl.CtOk.op okc.out);have HG:=(Pl.CtOk.cl okc.out);have Hv:tz<=t.length:=by omega
    have hw:q<=t.length:=by omega
    have hJ:O.size=c.op.length:=by rw[<-hO];simp
    have HJ:C.size=c.cl.length:=by rw[<-hC];simp
    have HB:o.1<=q/\tz<=o.2/\o.2<=t.length:=by
     rw[<-Ho];split
     ·exact Pl.qo6 t q tz hw Hv
     ·exact⟨Nat.le_refl _,Nat.le_refl _,Hv⟩
    have okd:=Pl.qh6 okc.out o.1 q (by omega) HB.1 hw;have hK:(Lib.cut (t.drop p) c.op).1.length=i1:=Hr;have HC:(Lib.cut (Lib.cut (t.drop p) c.op).2.1 c.cl).1.length=i2:=hu;clear Hy Hp hy hl hF Hz HF Hr hu hv;generalize (Lib.cut (t.drop p) c.op).1=A1 at *;generalize (Lib.cut (t.drop p) c.op).2.1=R1 at *;generalize (Lib.cut R1 c.cl).1=A2 at *;generalize (Lib.cut R1 c.cl).2.1=R2 at *;have Hj:Hid (∀n,Calls Tryz.prog 146 #[.string (T.extract p t.length),.string O] (wr.drewN n) fun e w''=>e=.returned (.tuple #[.string ⟨A1.toArray⟩,.string ⟨R1.toArray⟩,.bool true])/\∃m,w''=wr.drewN m):=fun n=>(Hf n).mono fun e w'' ⟨h1,q,h2⟩=>⟨h1,n+q,by rw[h2,World.drewN_drewN]⟩;have Hn:Hid (∀n,Calls Tryz.prog 146 #[.string ⟨R1.toArray⟩,.string C] (wr.drewN n) fun e w''=>e=.returned (.tuple #[.string ⟨A2.toArray⟩,.string ⟨R2.toArray⟩,.bool true])/\∃m,w''=wr.drewN m):=fun n=>(Hk n).mono fun e w'' ⟨h1,q,h2⟩=>⟨h1,n+q,by rw[h2,World.drewN_drewN]⟩;have hf:Hid (∀W,Calls Tryz.prog 150 #[.string ⟨A2.toArray⟩,.string ⟨#[9,10,12,13,32]⟩] W fun e w'=>e=.returned (.string ⟨(Lib.trimS A2 Pl.qah).toArray⟩)/\Below W.heap.size W w'):=fun W=>qwi ⟨A2.toArray⟩ W (by rw[qbz,HC];omega);have Hq:Hid (∀W,qaz W->Calls Tryz.prog 149 #[.string ⟨(Lib.trimS A2 Pl.qah).toArray⟩] W fun e w'=>e=.returned (.agg #[.int .i64 one.kind,.int .i64 one.slip,.string ⟨one.name.toArray⟩,.string ⟨one.op.toArray⟩,.string ⟨one.cl.toArray⟩])/\Below W.heap.size W w'):=fun W hW=>by
     have:=HR.out (Lib.trimS A2 Pl.qah) W (by omega) hA hW;rw[h1]at this;exact this
    have Hg:Hid (∀W,CtAt W B g t c vp vo->Calls Tryz.prog 151 #[.pointer (some ⟨g,0,none⟩),.int .i64 q,.int .i64 tz] W fun e w'=>e=.returned (.tuple #[.int .i64 (Pl.qeg t q tz).1,.int .i64 (Pl.qeg t q tz).2])/\Below W.heap.size W w'):=fun W hW=>q6j W B g t c vp vo hW q tz hw Hv ht;have Hb:Hid (∀W,CtAt W B g t c vp vo->Calls Tryz.prog 147 #[.pointer (some ⟨g,0,none⟩),.int .i64 p,.int .i64 o.1] W fun e w'=>(∃r,e=.returned r)/\CtTo W w' B g t (c.addText t p o.1)):=fun W hW=>qpv W B g t c vp vo p o.1 hW (by omega) (by have:=okc.out.few;omega);generalize c.addText t p o.1=d at okd hS Hb;have Ha:Hid (∀W0 W,CtTo W0 W B g t d->Calls Tryz.prog 152 #[.pointer (some ⟨g,0,none⟩),.agg #[.int .i64 one.kind,.int .i64 one.slip,.string ⟨one.name.toArray⟩,.string ⟨one.op.toArray⟩,.string ⟨one.cl.toArray⟩],.int .i64 q] W fun e w'=>e=.returned (.int .i64 (d.take one q).1)/\CtTo W w' B g t (d.take one q).2):=fun W0 W hT=>by
     obtain⟨vp1,vo1,h2⟩:=hT.ex;exact q5r W B g t d vp1 vo1 h2 one ho q (by have:=okd.few;omega) okd.six (Pl.WfO.lt okd.wf)
    have hg:=hd hS;have hs:=hd okc.out;clear Hf Hk f1 f2 hO hC hE hT hS okd ho hA HA h1;have a0:p+A1.length=q:=by omega
    generalize (d.take one q)=r at Ha hg;obtain⟨r1,r2⟩:=r;obtain⟨o1,o2⟩:=o;simp only at hg Ha Hb HB;have a1:(p:Int)+(A1.length:Int)=(q:Int):=by omega
    have wA:IntKind.i64.wrap ((q:Int)+(O.size:Int))=(q:Int)+(O.size:Int):=by rw[IntKind.wrap_i64];omega
    have wB:IntKind.i64.wrap ((q:Int)+(O.size:Int)+(A2.length:Int))=(q:Int)+(O.size:Int)+(A2.length:Int):=by rw[IntKind.wrap_i64];omega
    have wC:IntKind.i64.wrap ((q:Int)+(O.size:Int)+(A2.length:Int)+(C.size:Int))=(tz:Int):=by rw[IntKind.wrap_i64];omega
    clear hJ HJ hq Hu hG HG Ht hz hK HC a0;generalize HL:(one.kind:Int)=kI at Hq Ha;by_cases k2:one.kind=2
    ·obtain rfl:kI=2:=by omega
     rw[if_neg (by simpa using k2)]at Ho;injection Ho with e3 e4;subst e3 e4;by_cases Hl:r1≠0
     ·rw[if_pos Hl]at hg
      have er:¬(r1:Int)=0:=by omega
      go_wp2_with fail
      go_quiet ((go_at_call 146;exact Hj.out _))
      go_wp2_with (go_at_call 146;refine Calls.mono (Hn.out _) ?_;rintro e w0 ⟨rfl,n2,rfl⟩)
      go_quiet (fail)
      go_wp2_with (first
       |(go_at_call 150;refine Calls.mono (hf.out _) ?_;rintro e w1 ⟨rfl,hb⟩;have He:Hid (Below wr.heap.size wr w1):=(qay (Below.refl _ wr) _).trans hb;clear hb)
       |(go_at_call 149;refine Calls.mono (Hq.out _ (qaz.below HI.out.ml He.out)) ?_;rintro e w2 ⟨rfl,hb⟩;have ha:Hid (Below wr.heap.size wr w2):=He.out.trans (hb.mono He.out.size);clear hb)
       |(go_at_call 147;have hc:Hid (Below wr.heap.size wr (w2.alloc (.cells #[.int .i64 2,.int .i64 one.slip,.string ⟨one.name.toArray⟩,.string ⟨one.op.toArray⟩,.string ⟨one.cl.toArray⟩] 274))):=ha.out.alloc ha.out.size _;have hi:Hid ((w2.alloc (.cells #[.int .i64 2,.int .i64 one.slip,.string ⟨one.name.toArray⟩,.string ⟨one.op.toArray⟩,.string ⟨one.cl.toArray⟩] 274)).heap[w2.heap.size]?=some (.cells #[.int .i64 2,.int .i64 one.slip,.string ⟨one.name.toArray⟩,.string ⟨one.op.toArray⟩,.string ⟨one.cl.toArray⟩] 274 (0,0))):=heap_alloc_new w2 _;refine Calls.mono (Hb.out _ (CtAt.below HI.out.at' hc.out)) ?_;rintro e w4 ⟨⟨r,rfl⟩,hT⟩;have Hc:Hid (CtTo (w2.alloc (.cells #[.int .i64 2,.int .i64 one.slip,.string ⟨one.name.toArray⟩,.string ⟨one.op.toArray⟩,.string ⟨one.cl.toArray⟩] 274)) w4 B g t d):=hT;have k12:=(hT.cur.keep _ _ _ _ hi.out (by have:=CtAt.lt HI.out.at';have:=ha.out.size;omega) qia qjo).trans hi.out;have t0:=qaa k12 0 _ rfl;have t1:=qaa k12 1 _ rfl;have t2:=qaa k12 2 _ rfl;have t3:=qaa k12 3 _ rfl;have t4:=qaa k12 4 _ rfl;clear hT k12)
       | (go_at_call 152;refine Calls.mono (Ha.out _ _ Hc.out) ?_;rintro e w5 ⟨rfl,hT⟩;have Hi:Hid (CtTo w4 w5 B g t r2):=hT;have z3:=(hc.out.block _ (Array.getElem?_eq_some_iff.1 HI.out.slot).1).trans HI.out.slot;have z4:=(Hc.out.cur.keep _ _ _ _ z3 hj qb5 qcp).trans z3;have z5:=(hT.cur.keep _ _ _ _ z4 hj qb5 qcp).trans z4;obtain⟨s0,s1,fs0,fs1⟩:=qe2 z5;have HZ:=hd z5;clear z3 z4 z5 hT))
      have Hm:Hid (Cur B g w w5):=((HI.out.cur.trans (Cur.of_below hc.out (by have:=CtAt.lt HI.out.at';omega))).trans Hc.out.cur).trans Hi.out.cur;refine HQ.out _ _ _ ?_;simp only[Exit.jump];have he:R=((r1,q),[]):=by rw[<-HI.out.rest,Pl.qer hg.out]
      exact qs8 (w':=w5) rfl rfl HZ.out Hm.out (by have:=CtAt.lt HI.out.at';have:=HI.out.cur.below.size;omega) _ _ (by rw[he]) (by rw[he]) (fun h0=>by rw[he]at h0;exact absurd h0 Hl)
     ·rw[if_neg Hl]at hg
      have er:(r1:Int)=0:=by omega
      go_wp2_with fail
      go_quiet ((go_at_call 146;exact Hj.out _))
      go_wp2_with (go_at_call 146;refine Calls.mono (Hn.out _) ?_;rintro e w0 ⟨rfl,n2,rfl⟩)
      go_quiet (fail)
      go_wp2_with (first
       |(go_at_call 150;refine Calls.mono (hf.out _) ?_;rintro e w1 ⟨rfl,hb⟩;have He:Hid (Below wr.heap.size wr w1):=(qay (Below.refl _ wr) _).trans hb;clear hb)
       |(go_at_call 149;refine Calls.mono (Hq.out _ (qaz.below HI.out.ml He.out)) ?_;rintro e w2 ⟨rfl,hb⟩;have ha:Hid (Below wr.heap.size wr w2):=He.out.trans (hb.mono He.out.size);clear hb)
       |(go_at_call 147;have hc:Hid (Below wr.heap.size wr (w2.alloc (.cells #[.int .i64 2,.int .i64 one.slip,.string ⟨one.name.toArray⟩,.string ⟨one.op.toArray⟩,.string ⟨one.cl.toArray⟩] 274))):=ha.out.alloc ha.out.size _;have hi:Hid ((w2.alloc (.cells #[.int .i64 2,.int .i64 one.slip,.string ⟨one.name.toArray⟩,.string ⟨one.op.toArray⟩,.string ⟨one.cl.toArray⟩] 274)).heap[w2.heap.size]?=some (.cells #[.int .i64 2,.int .i64 one.slip,.string ⟨one.name.toArray⟩,.string ⟨one.op.toArray⟩,.string ⟨one.cl.toArray⟩] 274 (0,0))):=heap_alloc_new w2 _;refine Calls.mono (Hb.out _ (CtAt.below HI.out.at' hc.out)) ?_;rintro e w4 ⟨⟨r,rfl⟩,hT⟩;have Hc:Hid (CtTo (w2.alloc (.cells #[.int .i64 2,.int .i64 one.slip,.string ⟨one.name.toArray⟩,.string ⟨one.op.toArray⟩,.string ⟨one.cl.toArray⟩] 274)) w4 B g t d):=hT;have k12:=(hT.cur.keep _ _ _ _ hi.out (by have:=CtAt.lt HI.out.at';have:=ha.out.size;omega) qia qjo).trans hi.out;have t0:=qaa k12 0 _ rfl;have t1:=qaa k12 1 _ rfl;have t2:=qaa k12 2 _ rfl;have t3:=qaa k12 3 _ rfl;have t4:=qaa k12 4 _ rfl;clear hT k12)
       | (go_at_call 152;refine Calls.mono (Ha.out _ _ Hc.out) ?_;rintro e w5 ⟨rfl,hT⟩;have Hi:Hid (CtTo w4 w5 B g t r2):=hT;have z3:=(hc.out.block _ (Array.getElem?_eq_some_iff.1 HI.out.slot).1).trans HI.out.slot;have z4:=(Hc.out.cur.keep _ _ _ _ z3 hj qb5 qcp).trans z3;have z5:=(hT.cur.keep _ _ _ _ z4 hj qb5 qcp).trans z4;obtain⟨s0,s1,fs0,fs1⟩:=qe2 z5;have HZ:=hd z5;clear z3 z4 z5 hT))
      have Hm:Hid (Cur B g w w5):=((HI.out.cur.trans (Cur.of_below hc.out (by have:=CtAt.lt HI.out.at';omega))).trans Hc.out.cur).trans Hi.out.cur;go_step3
      refine HQ.out _ _ _ ?_;simp only[Exit.jump];obtain⟨vp5,vo5,h5⟩:=Hi.out.ex;obtain⟨ok5,lt5⟩:=Pl.qga hs.out hg.out;refine⟨trivial,CutJ.of r2 _ vp5 vo5 (by rfl) ⟨h5,ok5,Hm.out,HZ.out,qaz.cur (qaz.cur (qaz.below HI.out.ml hc.out) Hc.out.cur.below hr) Hi.out.cur.below hr,by rw[<-Pl.qoq hs.out hg.out];exact HI.out.rest⟩,?_⟩;simp[intOf];omega
    ·have e2:¬kI=2:=by omega
     rw[if_pos k2]at Ho;rw[Ho]at Hg;by_cases Hl:r1≠0
     ·rw[if_pos Hl]at hg
      have er:¬(r1:Int)=0:=by omega
      go_wp2_with fail
      go_quiet ((go_at_call 146;exact Hj.out _))
      go_wp2_with (go_at_call 146;refine Calls.mono (Hn.out _) ?_;rintro e w0 ⟨rfl,n2,rfl⟩)
      go_quiet (fail)
      go_wp2_with (first
       |(go_at_call 150;refine Calls.mono (hf.out _) ?_;rintro e w1 ⟨rfl,hb⟩;have He:Hid (Below wr.heap.size wr w1):=(qay (Below.refl _ wr) _).trans hb;clear hb)
       |(go_at_call 149;refine Calls.mono (Hq.out _ (qaz.below HI.out.ml He.out)) ?_;rintro e w2 ⟨rfl,hb⟩;have ha:Hid (Below wr.heap.size wr w2):=He.out.trans (hb.mono He.out.size);clear hb)
       |(go_at_call 151;refine Calls.mono (Hg.out _ (CtAt.below HI.out.at' (ha.out.alloc ha.out.size _))) ?_;rintro e w3 ⟨rfl,hb⟩;have hc:Hid (Below wr.heap.size wr w3):=(ha.out.alloc ha.out.size _).trans (hb.mono (by have:=ha.out.size;simp;omega));have hi:Hid (w3.heap[w2.heap.size]?=some (.cells #[.int .i64 kI,.int .i64 one.slip,.string ⟨one.name.toArray⟩,.string ⟨one.op.toArray⟩,.string ⟨one.cl.toArray⟩] 274 (0,0))):=(hb.block _ (by simp)).trans (heap_alloc_new w2 _);clear hb)
       |(go_at_call 147;refine Calls.mono (Hb.out _ (CtAt.below HI.out.at' hc.out)) ?_;rintro e w4 ⟨⟨r,rfl⟩,hT⟩;have Hc:Hid (CtTo w3 w4 B g t d):=hT;have k12:=(hT.cur.keep _ _ _ _ hi.out (by have:=CtAt.lt HI.out.at';have:=ha.out.size;omega) qia qjo).trans hi.out;have t0:=qaa k12 0 _ rfl;have t1:=qaa k12 1 _ rfl;have t2:=qaa k12 2 _ rfl;have t3:=qaa k12 3 _ rfl;have t4:=qaa k12 4 _ rfl;clear hT k12)
       | (go_at_call 152;refine Calls.mono (Ha.out _ _ Hc.out) ?_;rintro e w5 ⟨rfl,hT⟩;have Hi:Hid (CtTo w4 w5 B g t r2):=hT;have z3:=(hc.out.block _ (Array.getElem?_eq_some_iff.1 HI.out.slot).1).trans HI.out.slot;have z4:=(Hc.out.cur.keep _ _ _ _ z3 hj qb5 qcp).trans z3;have z5:=(hT.cur.keep _ _ _ _ z4 hj qb5 qcp).trans z4;obtain⟨s0,s1,fs0,fs1⟩:=qe2 z5;have HZ:=hd z5;clear z3 z4 z5 hT))
      have Hm:Hid (Cur B g w w5):=((HI.out.cur.trans (Cur.of_below hc.out (by have:=CtAt.lt HI.out.at';omega))).trans Hc.out.cur).trans Hi.out.cur;refine HQ.out _ _ _ ?_;simp only[Exit.jump];have he:R=((r1,q),[]):=by rw[<-HI.out.rest,Pl.qer hg.out]
      exact qs8 (w':=w5) rfl rfl HZ.out Hm.out (by have:=CtAt.lt HI.out.at';have:=HI.out.cur.below.size;omega) _ _ (by rw[he]) (by rw[he]) (fun h0=>by rw[he]at h0;exact absurd h0 Hl)
     ·rw[if_neg Hl]at hg
      have er:(r1:Int)=0:=by omega
      go_wp2_with fail
      go_quiet ((go_at_call 146;exact Hj.out _))
      go_wp2_with (go_at_call 146;refine Calls.mono (Hn.out _) ?_;rintro e w0 ⟨rfl,n2,rfl⟩)
      go_quiet (fail)
      go_wp2_with (first
       |(go_at_call 150;refine Calls.mono (hf.out _) ?_;rintro e w1 ⟨rfl,hb⟩;have He:Hid (Below wr.heap.size wr w1):=(qay (Below.refl _ wr) _).trans hb;clear hb)
       |(go_at_call 149;refine Calls.mono (Hq.out _ (qaz.below HI.out.ml He.out)) ?_;rintro e w2 ⟨rfl,hb⟩;have ha:Hid (Below wr.heap.size wr w2):=He.out.trans (hb.mono He.out.size);clear hb)
       |(go_at_call 151;refine Calls.mono (Hg.out _ (CtAt.below HI.out.at' (ha.out.alloc ha.out.size _))) ?_;rintro e w3 ⟨rfl,hb⟩;have hc:Hid (Below wr.heap.size wr w3):=(ha.out.alloc ha.out.size _).trans (hb.mono (by have:=ha.out.size;simp;omega));have hi:Hid (w3.heap[w2.heap.size]?=some (.cells #[.int .i64 kI,.int .i64 one.slip,.string ⟨one.name.toArray⟩,.string ⟨one.op.toArray⟩,.string ⟨one.cl.toArray⟩] 274 (0,0))):=(hb.block _ (by simp)).trans (heap_alloc_new w2 _);clear hb)
       |(go_at_call 147;refine Calls.mono (Hb.out _ (CtAt.below HI.out.at' hc.out)) ?_;rintro e w4 ⟨⟨r,rfl⟩,hT⟩;have Hc:Hid (CtTo w3 w4 B g t d):=hT;have k12:=(hT.cur.keep _ _ _ _ hi.out (by have:=CtAt.lt HI.out.at';have:=ha.out.size;omega) qia qjo).trans hi.out;have t0:=qaa k12 0 _ rfl;have t1:=qaa k12 1 _ rfl;have t2:=qaa k12 2 _ rfl;have t3:=qaa k12 3 _ rfl;have t4:=qaa k12 4 _ rfl;clear hT k12)
       | (go_at_call 152;refine Calls.mono (Ha.out _ _ Hc.out) ?_;rintro e w5 ⟨rfl,hT⟩;have Hi:Hid (CtTo w4 w5 B g t r2):=hT;have z3:=(hc.out.block _ (Array.getElem?_eq_some_iff.1 HI.out.slot).1).trans HI.out.slot;have z4:=(Hc.out.cur.keep _ _ _ _ z3 hj qb5 qcp).trans z3;have z5:=(hT.cur.keep _ _ _ _ z4 hj qb5 qcp).trans z4;obtain⟨s0,s1,fs0,fs1⟩:=qe2 z5;have HZ:=hd z5;clear z3 z4 z5 hT))
      have Hm:Hid (Cur B g w w5):=((HI.out.cur.trans (Cur.of_below hc.out (by have:=CtAt.lt HI.out.at';omega))).trans Hc.out.cur).trans Hi.out.cur;go_step3
      refine HQ.out _ _ _ ?_;simp only[Exit.jump];obtain⟨vp5,vo5,h5⟩:=Hi.out.ex;obtain⟨ok5,lt5⟩:=Pl.qga hs.out hg.out;refine⟨trivial,CutJ.of r2 _ vp5 vo5 (by rfl) ⟨h5,ok5,Hm.out,HZ.out,qaz.cur (qaz.cur (qaz.below HI.out.ml hc.out) Hc.out.cur.below hr) Hi.out.cur.below hr,by rw[<-Pl.qoq hs.out hg.out];exact HI.out.rest⟩,?_⟩;simp[intOf];omega
end Go.Proofs.YtfkhljmiehdgmaaGreatDoor
