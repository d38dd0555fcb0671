/-
  Steps of the proof.
-/
import Derived.Test.YtfkhljmiehdgmaaGreatDoorCuBI
set_option maxRecDepth 100000
set_option maxHeartbeats 40000000
namespace Go.Proofs.YtfkhljmiehdgmaaGreatDoor
open Go.RowKit Go.Proofs.Tryz Pl
variable{P:Program}{a:Act}{w wr w':World}{B g:Nat}{R:(Nat×Nat)×List Pt}{c:Ct}{vp vo:Value}
theorem qt7{pre rest:Code}{Q:Exit->Act->World->Prop}(l:Nat)(J:Act->World->Prop)(μ:Act->World->Nat)(hf:findLabel pre l=none)
  (ha:pre.wp P (fun e a' w'=>e=.normal/\J a' w') a w)
  (pass:∀a w,J a w->rest.wp P (Exit.jump l (fun a' w'=>J a' w'/\μ a' w'<μ a w) Q) a w):(Code.scope (pre.seq ((Code.label l).seq rest))).wp P Q a w:=by
 refine wp_scope_jumps l J μ (rest:=Code.skip.seq rest) (by simp[findLabel,hf]) ?_ (fun a w hJ=>wp_seq (wp_skip (pass a w hJ)));refine wp_seq (wp_mono ha ?_);rintro e a' w' ⟨rfl,hJ⟩;show((Code.label l).seq rest).wp P (Exit.jump l J Q) a' w';refine wp_seq (wp_label ?_);show rest.wp P (Exit.jump l J Q) a' w';refine wp_mono (pass a' w' hJ) ?_;intro e a'' w'' h;cases e<;>first|exact⟨h.1,h.2.1⟩|exact h
theorem zew{c:Code}{Q:Exit->Act->World->Prop}(h:∀Q':Exit->Act->World->Prop,(∀e a w,Q e a w->Q' e a w)->c.wp P Q' a w):c.wp P Q a w:=h Q (fun _ _ _ q=>q)
structure CutI(w wr:World)(B g:Nat)(t:zU)(R:(Nat×Nat)×List Pt)(c:Ct)(p:Nat)(vp vo:Value):Prop where
 at':CtAt wr B g t c vp vo
 ok:CtOk t c p
 cur:Cur B g w wr
 slot:wr.heap[w.heap.size]?=zK #[zI 0,zI 0] 169
 ml:qa3 wr
 rest:c.rest t p=R
def CutJ(w:World)(B g:Nat)(t:zU)(R:(Nat×Nat)×List Pt)(a:Act)(wr:World):Prop:=
 ∃(c:Ct) (p:Nat) (vp vo:Value) (u:Nat->Value),a={ tmps:=#[zP g,u 1,zP w.heap.size,zI p,u 4,u 5,u 6,u 7,u 8,u 9,u 10,u 11,u 12,u 13,u 14,u 15,u 16,u 17,u 18,u 19,u 20,u 21,u 22,u 23,u 24,u 25,u 26,u 27,u 28,u 29,u 30,u 31,u 32,u 33,u 34,u 35,u 36,u 37,u 38,u 39,u 40,u 41,u 42,u 43,u 44,u 45,u 46,u 47,u 48,u 49,u 50,u 51,u 52,u 53,u 54,u 55,u 56,u 57,u 58,u 59,u 60,u 61,u 62,u 63,u 64,u 65,u 66,u 67,u 68,u 69,u 70,u 71,u 72,u 73,u 74,u 75,u 76,u 77,u 78,u 79,u 80,u 81,u 82,u 83,u 84,u 85,u 86,u 87,u 88,u 89,u 90,u 91,u 92,u 93,u 94,u 95,u 96,u 97,u 98,u 99,u 100,u 101,u 102,u 103,u 104,u 105],defers:=[] }/\CutI w wr B g t R c p vp vo
theorem CutJ.of{t:zU}{tm:Array Value}(c:Ct)(p:Nat)(vp vo:Value)(hf:tm=#[zP g,tm.getD 1 undef,zP w.heap.size,zI p,tm.getD 4 undef,tm.getD 5 undef,tm.getD 6 undef,tm.getD 7 undef,tm.getD 8 undef,tm.getD 9 undef,tm.getD 10 undef,tm.getD 11 undef,tm.getD 12 undef,tm.getD 13 undef,tm.getD 14 undef,tm.getD 15 undef,tm.getD 16 undef,tm.getD 17 undef,tm.getD 18 undef,tm.getD 19 undef,tm.getD 20 undef,tm.getD 21 undef,tm.getD 22 undef,tm.getD 23 undef,tm.getD 24 undef,tm.getD 25 undef,tm.getD 26 undef,tm.getD 27 undef,tm.getD 28 undef,tm.getD 29 undef,tm.getD 30 undef,tm.getD 31 undef,tm.getD 32 undef,tm.getD 33 undef,tm.getD 34 undef,tm.getD 35 undef,tm.getD 36 undef,tm.getD 37 undef,tm.getD 38 undef,tm.getD 39 undef,tm.getD 40 undef,tm.getD 41 undef,tm.getD 42 undef,tm.getD 43 undef,tm.getD 44 undef,tm.getD 45 undef,tm.getD 46 undef,tm.getD 47 undef,tm.getD 48 undef,tm.getD 49 undef,tm.getD 50 undef,tm.getD 51 undef,tm.getD 52 undef,tm.getD 53 undef,tm.getD 54 undef,tm.getD 55 undef,tm.getD 56 undef,tm.getD 57 undef,tm.getD 58 undef,tm.getD 59 undef,tm.getD 60 undef,tm.getD 61 undef,tm.getD 62 undef,tm.getD 63 undef,tm.getD 64 undef,tm.getD 65 undef,tm.getD 66 undef,tm.getD 67 undef,tm.getD 68 undef,tm.getD 69 undef,tm.getD 70 undef,tm.getD 71 undef,tm.getD 72 undef,tm.getD 73 undef,tm.getD 74 undef,tm.getD 75 undef,tm.getD 76 undef,tm.getD 77 undef,tm.getD 78 undef,tm.getD 79 undef,tm.getD 80 undef,tm.getD 81 undef,tm.getD 82 undef,tm.getD 83 undef,tm.getD 84 undef,tm.getD 85 undef,tm.getD 86 undef,tm.getD 87 undef,tm.getD 88 undef,tm.getD 89 undef,tm.getD 90 undef,tm.getD 91 undef,tm.getD 92 undef,tm.getD 93 undef,tm.getD 94 undef,tm.getD 95 undef,tm.getD 96 undef,tm.getD 97 undef,tm.getD 98 undef,tm.getD 99 undef,tm.getD 100 undef,tm.getD 101 undef,tm.getD 102 undef,tm.getD 103 undef,tm.getD 104 undef,tm.getD 105 undef])(hI:CutI w wr B g t R c p vp vo):CutJ w B g t R { tmps:=tm,defers:=[] } wr:=
 ⟨c,p,vp,vo,fun i=>tm.getD i undef,yE (fun x=>({ tmps:=x,defers:=[] }:Act)) hf,hI⟩
def CutP(w:World)(B g:Nat)(t:zU)(R:(Nat×Nat)×List Pt)(e:Ending)(w':World):Prop:=
 e=.returned (qg8 R.1.1 R.1.2)/\Cur B g w w'/\(R.1.1=0->∃c vp vo,CtAt w' B g t c vp vo/\c.parts=R.2)
def qd0(t:zU):Prop:=∀(L:zU) (w:World),L.length<=2000->(∀b∈L,b∈t)->qa3 w ->
 zC 149 #[zV L] w (zR (qeh (qba L)) w)
theorem CutI.drewN{t:zU}{p:Nat}(h:CutI w wr B g t R c p vp vo)(n:Nat):CutI w (wr.drewN n) B g t R c p vp vo:=
 ⟨h.at'.kept fun _ _=>rfl,h.ok,⟨qat h.cur.below n,h.cur.keep⟩,h.slot,h.ml,h.rest⟩
theorem qpu:(274:TypeId)≠229:=by decide
theorem qsg:(274:TypeId)≠3:=by decide
theorem qff:(169:TypeId)≠229:=by decide
theorem qfz:(169:TypeId)≠3:=by decide
theorem q36:(169:TypeId)≠222:=by decide
theorem CtAt.setSlip{t:zU}(h:CtAt w B g t c vp vo){k:Nat}{cs:Array Value}{fz:Nat×Nat}(hs:w.heap[k]?=some (.cells cs 169 fz))(j:Nat)(v:Value):CtAt (w.setCell (zO k j) v) B g t c vp vo:=by
 have ha:∀i,i≠k->(w.setCell (zO k j) v).heap[i]?=w.heap[i]?:=fun i hi=>xL _ _ _ _ hi;refine⟨(ha g (qae h.blk hs q36.symm)).trans h.blk,qab h.parts fun i hi=>ha i ?_,qab h.opened fun i hi=>ha i ?_,h.le⟩
 ·obtain⟨cur,hc⟩:=qac h.parts i hi
  exact qae hc hs qff.symm
 ·obtain⟨cur,hc⟩:=qac h.opened i hi
  exact qae hc hs qfz.symm
theorem Cur.setNew(h:Cur B g w w')(hB:B<=w.heap.size)(j:Nat)(v:Value):Cur B g w (w'.setCell (zO w.heap.size j) v):=
 ⟨h.below.setCell (p:=zO w.heap.size j) hB v,fun k cs t fz hk h1 h2 h3=>(xL _ _ _ _ (by have:=(ya.1 hk).1;simp only;omega)).trans (h.keep k cs t fz hk h1 h2 h3)⟩
theorem qq6{t:TypeId}{u0 u1:Value}(h:w.heap[g]?=zK #[u0,u1] t)(v0 v1:Value) :
  ((w.setCell (zO g 0) v0).setCell (zO g 1) v1).heap[g]?=zK #[v0,v1] t:=
 xH _ _ _ _ _ _ (xH _ _ _ _ _ _ h)
theorem q11{t:zU}(hp:a.tmps.getD 2 undef=zP w.heap.size)(hd:a.defers=[])(hs:w'.heap[w.heap.size]?=zK #[zI 0,zI 0] 169)(hc:Cur B g w w')(hB:B<=w.heap.size)
  (k q:Int) (hk:k=R.1.1) (hq:q=R.1.2) (hx:R.1.1=0->∃c vp vo,CtAt w' B g t c vp vo/\c.parts=R.2) :
  bodyPost prog f104 (CutP w B g t R) .ret a ((w'.setCell (zO w.heap.size 0) (zI k)).setCell (zO w.heap.size 1) (zI q)):=by
 subst hk hq;refine bodyPost_ret (qbn results104 _ _ w.heap.size _ _ hp (qaa (qq6 hs _ _)) underlying169 rfl (by kernel_rfl)) hd ?_;refine⟨rfl,(hc.setNew hB _ _).setNew hB _ _,fun h0=>?_⟩;obtain⟨c,vp,vo,h1,h2⟩:=hx h0;exact⟨c,vp,vo,(h1.setSlip hs _ _).setSlip (xH _ _ _ _ _ _ hs) _ _,h2⟩
theorem qid{k:Nat}(hs:w'.heap[k]?=zK #[zI 0,zI 0] 169):w'.cell? (zO k 0)=some (zI 0)/\w'.cell? (zO k 1)=some (zI 0)/\w'.frozen? (zO k 0)=false/\w'.frozen? (zO k 1)=false:=by
 have c:=qaa hs;exact⟨c 0 _ rfl,c 1 _ rfl,by simp[World.frozen?,hs],by simp[World.frozen?,hs]⟩
theorem qa3.cur(h:qa3 w)(hb:Below B w w')(ha:11<B):qa3 w':=by
 obtain⟨m,hm⟩:=h;exact⟨m,(xQ (hb.block _ ha)).trans hm⟩
theorem q8s(l cs:zU):∀b∈Lib.trimS l cs,b∈l:=by
 intro b hb;unfold Lib.trimS Lib.trimLeftS Lib.trimRightS at hb;have h1:=(List.dropWhile_sublist _).subset hb;rw[List.mem_reverse]at h1;have h2:=(List.dropWhile_sublist _).subset h1;exact List.mem_reverse.1 h2
theorem za6(l cs:zU):(Lib.trimS l cs).length<=l.length:=by
 unfold Lib.trimS;exact yh (qiq _ _) (qmd _ _)
theorem zgb(w:World)(B g:Nat)(t:zU)(c0:Ct)(vp0 vo0:Value)(h:CtAt w B g t c0 vp0 vo0)(Hu:CtOk t c0 0)(hm:qa3 w)(ht:t.length<=2000)(hR:qd0 t)(hv:11<B) :
  zC 104 #[zP g] w (CutP w B g t (c0.rest t 0)):=by
 have HI:Hid (CutI w (w.alloc (.cells #[zI 0,zI 0] 169)) B g t (c0.rest t 0) c0 0 vp0 vo0):=
  ⟨h.alloc _,Hu,Cur.of_below (zB _) (yh h.le (yj h.lt)),xG w _,hm.below (zB _),rfl⟩
 have HR:=zH hR;have HK:g<w.heap.size:=h.lt;clear h Hu hm hR;generalize Hb:c0.rest t 0=R at HI |-;clear Hb;go_enter func104,ntmps104
 go_wp2
 refine qt7 0 (CutJ w B g t R) (fun a' _=>t.length - (intOf (a'.tmps.getD 3 undef)).toNat) rfl ?_ ?_
 ·go_wp2
  exact⟨c0,0,vp0,vo0,fun _=>undef,rfl,HI.out⟩
 ·rintro a' wr ⟨c,p,vp,vo,u,rfl,hI⟩
  clear HI;have HI:=zH hI;refine zew (fun Q2 Hv=>?_);have HQ:=zH Hv;clear Hv;obtain⟨m,hm⟩:=hI.ml;obtain⟨T,hT⟩:∃T,T=(⟨t.toArray⟩:zT):=⟨_,rfl⟩;have hL:T.size=t.length:=by rw[hT];exact qb1 t
  have b0:=hI.at'.cell 0 _ rfl;have b1:=hI.at'.cell 1 _ rfl;have b2:=hI.at'.cell 2 _ rfl;unfold bs at b0 b1 b2;rw[<-hT]at b0;have hO:(⟨c.op.toArray⟩:zT).data.toList=c.op:=rfl;have hC:(⟨c.cl.toArray⟩:zT).data.toList=c.cl:=rfl;generalize (⟨c.op.toArray⟩:zT)=O at b1 hO;generalize (⟨c.cl.toArray⟩:zT)=C at b2 hC;have hE:(T.extract p t.length).data.toList=t.drop p:=by rw[hT,qoo]
  have hc:=fun n=>strings_Cut (T.extract p t.length) O m (wr.drewN n) (by rw[hT,qg6,qb1];simp;omega) hm;rw[hE,hO]at hc;have hD:=hI.ok.le;have c1:(p:Int)<=(t.length:Int):=by omega
  have hn:w.heap.size≠g:=by omega
  have hB:=hI.at'.le;have okc:=zH hI.ok;clear hI;by_cases f1:(Lib.cut (t.drop p) c.op).2.2=true
  rotate_left
  ·have f1:=ye.2 f1
   have hS:=qmh f1;have okd:=qin okc.out t.length t.length hD (yg _) (yg _);have Hb:R=((c.addText t p t.length).left,(c.addText t p t.length).parts):=by rw[<-HI.out.rest,qwz hS]
   rw[f1]at hc;generalize (Lib.cut (t.drop p) c.op).1=A1 at hc;generalize (Lib.cut (t.drop p) c.op).2.1=R1 at hc;have Hi:Hid (∀n,zC 146 #[.string (T.extract p t.length),.string O] (wr.drewN n) fun e w''=>e=.returned (.tuple #[zV A1,zV R1,.bool false])/\∃m,w''=wr.drewN m):=fun n=>(hc n).mono fun e w'' ⟨h1,q,h2⟩=>⟨h1,n+q,by rw[h2,World.drewN_drewN]⟩;have ha:Hid (∀n,zC 147 #[zP g,zI p,zI t.length] (wr.drewN n) fun e w'=>(∃r,e=.returned r)/\CtTo (wr.drewN n) w' B g t (c.addText t p t.length)):=fun n=>by
    exact qrv (wr.drewN n) B g t c vp vo p t.length (HI.out.drewN n).at' (yg _) (by have:=okc.out.few;omega)
   generalize c.addText t p t.length=d at okd Hb ha;have HD:=zH okd;have He:=zH Hb;clear hc hS okd Hb f1 hO hC hE hT;have hj:Hid (∀W0 W,CtTo W0 W B g t d->zC 148 #[zP g] W (zR (.agg #[zI (d.left.1:Nat),zI (d.left.2:Nat)]) W)):=fun W0 W hT=>by
    obtain⟨vp1,vo1,h1⟩:=hT.ex;exact qxl W B g t d vp1 vo1 h1 (WfO.lt HD.out.wf) (by have:=CtOk.few HD.out;omega) (CtOk.six HD.out)
   go_wp2
   go_quiet ((go_at_call 146;exact Hi.out _))
   go_wp2_with (first
    |(go_at_call 147;refine xR (ha.out _) ?_;rintro e w1 ⟨⟨r,rfl⟩,hw⟩;have hg:=zH hw;clear hw)
    | (go_at_call 148;refine xR (hj.out _ _ hg.out) ?_;rintro e w2 ⟨rfl,hb⟩;have Hn:=(hb.block _ (yi (ya.1 (HI.out.slot)).1 (CtTo.cur hg.out).below.size)).trans (((CtTo.cur hg.out).keep _ _ _ _ HI.out.slot hn qff qfz).trans HI.out.slot);obtain⟨s0,s1,fs0,fs1⟩:=qid Hn;have HE:=zH Hn;have Hc:=zH hb;clear Hn hb))
   refine HQ.out _ _ _ ?_;simp only[Exit.jump];refine q11 rfl rfl HE.out ((Cur.trans (CutI.drewN HI.out _).cur (CtTo.cur hg.out)).trans (Cur.of_below Hc.out (by have:=(CtTo.cur hg.out).below.size;have:=HI.out.cur.below.size;have e:(wr.drewN nq).heap.size=wr.heap.size:=rfl;have:=(CtAt.lt HI.out.at');omega))) (by omega) _ _ (by rw[He.out]) (by rw[He.out]) (fun _=>?_);obtain⟨vp1,vo1,h1⟩:=CtTo.ex hg.out;exact⟨d,vp1,vo1,h1.below Hc.out,by rw[He.out]⟩
  ·obtain⟨i1,Hw,Ho,hx,Hj,Hm⟩:=qj8 _ _ f1
   rw[yM]at Ho;by_cases f2:(Lib.cut (Lib.cut (t.drop p) c.op).2.1 c.cl).2.2=true
   rotate_left
   ·have f2:=ye.2 f2
    have hS:=qgt f1 f2;have Hb:R=((2,p+(Lib.cut (t.drop p) c.op).1.length),[]):=by rw[<-HI.out.rest,qfo hS]
    have hf:=fun n=>strings_Cut (⟨(Lib.cut (t.drop p) c.op).2.1.toArray⟩:zT) C m (wr.drewN n) (by rw[qb1,Hj];simp;omega) hm;rw[f1]at hc;have hl:(⟨(Lib.cut (t.drop p) c.op).2.1.toArray⟩:zT).data.toList=(Lib.cut (t.drop p) c.op).2.1:=rfl;rw[hl,hC,f2]at hf;clear Hj hx Hw hS hl;generalize (Lib.cut (t.drop p) c.op).1=A1 at *;generalize (Lib.cut (t.drop p) c.op).2.1=R1 at *;generalize (Lib.cut R1 c.cl).1=A2 at *;generalize (Lib.cut R1 c.cl).2.1=R2 at *;have Hi:Hid (∀n,zC 146 #[.string (T.extract p t.length),.string O] (wr.drewN n) fun e w''=>e=.returned (.tuple #[zV A1,zV R1,.bool true])/\∃m,w''=wr.drewN m):=fun n=>(hc n).mono fun e w'' ⟨h1,q,h2⟩=>⟨h1,n+q,by rw[h2,World.drewN_drewN]⟩;have hp:Hid (∀n,zC 146 #[zV R1,.string C] (wr.drewN n) fun e w''=>e=.returned (.tuple #[zV A2,zV R2,.bool false])/\∃m,w''=wr.drewN m):=fun n=>(hf n).mono fun e w'' ⟨h1,q,h2⟩=>⟨h1,n+q,by rw[h2,World.drewN_drewN]⟩;have He:=zH Hb;obtain⟨s0,s1,fs0,fs1⟩:=qid HI.out.slot;have a0:p+A1.length<=2000:=by omega
    clear hc hf Hb f1 f2 hO hC hE hT Ho Hm;go_wp2
    go_quiet ((go_at_call 146;exact Hi.out _))
    go_wp2_with (go_at_call 146;refine xR (hp.out _) ?_;rintro e w1 ⟨rfl,n2,rfl⟩)
    refine HQ.out _ _ _ ?_;simp only[Exit.jump];refine q11 (w':=wr.drewN n2) rfl rfl HI.out.slot (CutI.drewN HI.out _).cur (by have:=(CtAt.lt HI.out.at');have:=HI.out.cur.below.size;omega) _ _ (by rw[He.out];rfl) (by rw[He.out];rfl) (fun h0=>by rw[He.out]at h0;cases h0)
   ·obtain⟨i2,hF,Hx,hy,HF,Hp⟩:=qj8 _ _ f2
    have Hy:∀b∈Lib.trimS (Lib.cut (Lib.cut (t.drop p) c.op).2.1 c.cl).1 qag,b∈t:=fun b hb=>by
     have h1:=q8s _ _ b hb;rw[hy]at h1;have h2:=List.mem_of_mem_take h1;rw[Hj]at h2;exact List.mem_of_mem_drop (List.mem_of_mem_drop h2)
    have hz:=za6 (Lib.cut (Lib.cut (t.drop p) c.op).2.1 c.cl).1 qag;obtain⟨one,h1⟩:∃one,qba (Lib.trimS (Lib.cut (Lib.cut (t.drop p) c.op).2.1 c.cl).1 qag)=one:=⟨_,rfl⟩;have ho:=qqh (Lib.trimS (Lib.cut (Lib.cut (t.drop p) c.op).2.1 c.cl).1 qag);rw[h1]at ho;obtain⟨q,hq⟩:∃q,p+(Lib.cut (t.drop p) c.op).1.length=q:=⟨_,rfl⟩;obtain⟨tz,Hq⟩:∃tz,q+c.op.length+(Lib.cut (Lib.cut (t.drop p) c.op).2.1 c.cl).1.length+c.cl.length=tz:=⟨_,rfl⟩;obtain⟨o,Hg⟩:∃o,(if one.kind≠2 then qel t q tz else(q,tz))=o:=⟨_,rfl⟩;have hS:=qpa f1 f2 one h1 q tz hq Hq o Hg;have hr:(Lib.cut (t.drop p) c.op).2.1.length=t.length - (p+(i1+c.op.length)):=by rw[Hj];simp
    have hf:=fun n=>strings_Cut (⟨(Lib.cut (t.drop p) c.op).2.1.toArray⟩:zT) C m (wr.drewN n) (by rw[qb1,hr];omega) hm;rw[f1]at hc;have hl:(⟨(Lib.cut (t.drop p) c.op).2.1.toArray⟩:zT).data.toList=(Lib.cut (t.drop p) c.op).2.1:=rfl;rw[hl,hC,f2]at hf;rw[Hm]at hq;rw[Hp]at Hq hz;rw[hr]at Hx;have hG:=(CtOk.op okc.out);have HG:=(CtOk.cl okc.out);have Hr:tz<=t.length:=by omega
    have hs:q<=t.length:=by omega
    have hJ:O.size=c.op.length:=by rw[<-hO];simp
    have HJ:C.size=c.cl.length:=by rw[<-hC];simp
    have Hz:o.1<=q/\tz<=o.2/\o.2<=t.length:=by
     rw[<-Hg];split
     ·exact qqx t q tz hs Hr
     ·exact⟨yg _,yg _,Hr⟩
    have okd:=qin okc.out o.1 q (by omega) Hz.1 hs;have hK:(Lib.cut (t.drop p) c.op).1.length=i1:=Hm;have hA:(Lib.cut (Lib.cut (t.drop p) c.op).2.1 c.cl).1.length=i2:=Hp;clear hx Hj Hw hl hF hy HF Hm Hp hr;generalize (Lib.cut (t.drop p) c.op).1=A1 at *;generalize (Lib.cut (t.drop p) c.op).2.1=R1 at *;generalize (Lib.cut R1 c.cl).1=A2 at *;generalize (Lib.cut R1 c.cl).2.1=R2 at *;have Hi:Hid (∀n,zC 146 #[.string (T.extract p t.length),.string O] (wr.drewN n) fun e w''=>e=.returned (.tuple #[zV A1,zV R1,.bool true])/\∃m,w''=wr.drewN m):=fun n=>(hc n).mono fun e w'' ⟨h1,q,h2⟩=>⟨h1,n+q,by rw[h2,World.drewN_drewN]⟩;have hp:Hid (∀n,zC 146 #[zV R1,.string C] (wr.drewN n) fun e w''=>e=.returned (.tuple #[zV A2,zV R2,.bool true])/\∃m,w''=wr.drewN m):=fun n=>(hf n).mono fun e w'' ⟨h1,q,h2⟩=>⟨h1,n+q,by rw[h2,World.drewN_drewN]⟩;have hk:Hid (∀W,zC 150 #[zV A2,.string ⟨#[9,10,12,13,32]⟩] W (zR (zV (Lib.trimS A2 qag)) W)):=fun W=>qz1 ⟨A2.toArray⟩ W (by rw[qb1,hA];omega);have HA:Hid (∀W,qa3 W->zC 149 #[zV (Lib.trimS A2 qag)] W (zR (.agg #[zI one.kind,zI one.slip,zV one.name,zV one.op,zV one.cl]) W)):=fun W hW=>by
     have:=HR.out (Lib.trimS A2 qag) W (by omega) Hy hW;rw[h1]at this;exact this
    have he:Hid (∀W,CtAt W B g t c vp vo->zC 151 #[zP g,zI q,zI tz] W (zR (.tuple #[zI (qel t q tz).1,zI (qel t q tz).2]) W)):=fun W hW=>zce W B g t c vp vo hW q tz hs Hr ht;have ha:Hid (∀W,CtAt W B g t c vp vo->zC 147 #[zP g,zI p,zI o.1] W fun e w'=>(∃r,e=.returned r)/\CtTo W w' B g t (c.addText t p o.1)):=fun W hW=>qrv W B g t c vp vo p o.1 hW (by omega) (by have:=okc.out.few;omega);generalize c.addText t p o.1=d at okd hS ha;have Ha:Hid (∀W0 W,CtTo W0 W B g t d->zC 152 #[zP g,.agg #[zI one.kind,zI one.slip,zV one.name,zV one.op,zV one.cl],zI q] W fun e w'=>e=.returned (zI (d.take one q).1)/\CtTo W w' B g t (d.take one q).2):=fun W0 W hT=>by
     obtain⟨vp1,vo1,h2⟩:=hT.ex;exact zbh W B g t d vp1 vo1 h2 one ho q (by have:=okd.few;omega) okd.six (WfO.lt okd.wf)
    have Hf:=zH hS;have HB:=zH okc.out;clear hc hf f1 f2 hO hC hE hT hS okd ho Hy hz h1;have a0:p+A1.length=q:=by omega
    generalize (d.take one q)=r at Ha Hf;obtain⟨r1,r2⟩:=r;obtain⟨o1,o2⟩:=o;simp only at Hf Ha ha Hz;have a1:(p:Int)+(A1.length:Int)=(q:Int):=by omega
    have wA:IntKind.i64.wrap ((q:Int)+(O.size:Int))=(q:Int)+(O.size:Int):=by rw[IntKind.wrap_i64];omega
    have wB:IntKind.i64.wrap ((q:Int)+(O.size:Int)+(A2.length:Int))=(q:Int)+(O.size:Int)+(A2.length:Int):=by rw[IntKind.wrap_i64];omega
    have wC:IntKind.i64.wrap ((q:Int)+(O.size:Int)+(A2.length:Int)+(C.size:Int))=(tz:Int):=by rw[IntKind.wrap_i64];omega
    clear hJ HJ hq Hq hG HG Ho Hx hK hA a0;generalize HL:(one.kind:Int)=kI at HA Ha;by_cases k2:one.kind=2
    case' pos=>
     obtain rfl:kI=2:=by omega
     rw[if_neg (by simpa using k2)]at Hg;injection Hg with e3 e4;subst e3 e4
    case' neg=>
     have e2:¬kI=2:=by omega
     rw[if_pos k2]at Hg;rw[Hg]at he
    all_goals
     by_cases Hs:r1≠0
     case' pos=>
      rw[if_pos Hs]at Hf;have er:¬(r1:Int)=0:=by omega
     case' neg=>
      rw[if_neg Hs]at Hf;have er:(r1:Int)=0:=by omega
     all_goals
      go_wp2
      go_quiet ((go_at_call 146;exact Hi.out _))
      go_wp2_with (go_at_call 146;refine xR (hp.out _) ?_;rintro e w0 ⟨rfl,n2,rfl⟩)
      go_quiet (fail)
      go_wp2_with (first
       |(go_at_call 150;refine xR (hk.out _) ?_;rintro e w1 ⟨rfl,hb⟩;have Ht:Hid (zW wr w1):=(qat (xM _ wr) _).trans hb;clear hb)
       |(go_at_call 149;refine xR (HA.out _ (qa3.below HI.out.ml Ht.out)) ?_;rintro e w2 ⟨rfl,hb⟩;have Hc:Hid (zW wr w2):=Ht.out.trans (hb.mono Ht.out.size);clear hb)
       |(go_at_call 151;refine xR (he.out _ (CtAt.below HI.out.at' (Hc.out.alloc Hc.out.size _))) ?_;rintro e w3 ⟨rfl,hb⟩;have hi:Hid (zW wr w3):=(Hc.out.alloc Hc.out.size _).trans (hb.mono (by have:=Hc.out.size;simp;omega));have Hk:Hid (w3.heap[w2.heap.size]?=zK #[zI kI,zI one.slip,zV one.name,zV one.op,zV one.cl] 274):=(hb.block _ (by simp)).trans (xG w2 _);clear hb)
       |(go_at_call 147;refine xR (ha.out _ (CtAt.below HI.out.at' hi.out)) ?_;rintro e w4 ⟨⟨r,rfl⟩,hT⟩;have Hl:Hid (CtTo w3 w4 B g t d):=hT;have k12:=(hT.cur.keep _ _ _ _ Hk.out (by have:=CtAt.lt HI.out.at';have:=Hc.out.size;omega) qpu qsg).trans Hk.out;have t0:=al (qaa k12);clear hT k12)
       |(go_at_call 147;have hi:Hid (zW wr (w2.alloc (.cells #[zI 2,zI one.slip,zV one.name,zV one.op,zV one.cl] 274))):=Hc.out.alloc Hc.out.size _;have Hk:Hid ((w2.alloc (.cells #[zI 2,zI one.slip,zV one.name,zV one.op,zV one.cl] 274)).heap[w2.heap.size]?=zK #[zI 2,zI one.slip,zV one.name,zV one.op,zV one.cl] 274):=xG w2 _;refine xR (ha.out _ (CtAt.below HI.out.at' hi.out)) ?_;rintro e w4 ⟨⟨r,rfl⟩,hT⟩;have Hl:Hid (CtTo (w2.alloc (.cells #[zI 2,zI one.slip,zV one.name,zV one.op,zV one.cl] 274)) w4 B g t d):=hT;have k12:=(hT.cur.keep _ _ _ _ Hk.out (by have:=CtAt.lt HI.out.at';have:=Hc.out.size;omega) qpu qsg).trans Hk.out;have t0:=al (qaa k12);clear hT k12)
       | (go_at_call 152;refine xR (Ha.out _ _ Hl.out) ?_;rintro e w5 ⟨rfl,hT⟩;have hu:Hid (CtTo w4 w5 B g t r2):=hT;have z3:=(hi.out.block _ (ya.1 HI.out.slot).1).trans HI.out.slot;have z4:=(Hl.out.cur.keep _ _ _ _ z3 hn qff qfz).trans z3;have z5:=(hT.cur.keep _ _ _ _ z4 hn qff qfz).trans z4;obtain⟨s0,s1,fs0,fs1⟩:=qid z5;have HZ:=zH z5;clear z3 z4 z5 hT))
      have HC:Hid (Cur B g w w5):=((HI.out.cur.trans (Cur.of_below hi.out (by have:=CtAt.lt HI.out.at';omega))).trans Hl.out.cur).trans hu.out.cur
     ·go_step3
      refine HQ.out _ _ _ ?_;simp only[Exit.jump];obtain⟨vp5,vo5,h5⟩:=hu.out.ex;obtain⟨ok5,lt5⟩:=qhj HB.out Hf.out;refine⟨trivial,CutJ.of r2 _ vp5 vo5 (by rfl) ⟨h5,ok5,HC.out,HZ.out,qa3.cur (qa3.cur (qa3.below HI.out.ml hi.out) Hl.out.cur.below hv) hu.out.cur.below hv,by rw[<-qw0 HB.out Hf.out];exact HI.out.rest⟩,?_⟩;simp[intOf];omega
     ·refine HQ.out _ _ _ ?_
      simp only[Exit.jump];have Hb:R=((r1,q),[]):=by rw[<-HI.out.rest,qfo Hf.out]
      exact q11 (w':=w5) rfl rfl HZ.out HC.out (by have:=CtAt.lt HI.out.at';have:=HI.out.cur.below.size;omega) _ _ (by rw[Hb]) (by rw[Hb]) (fun h0=>by rw[Hb]at h0;exact absurd h0 Hs)
end Go.Proofs.YtfkhljmiehdgmaaGreatDoor
