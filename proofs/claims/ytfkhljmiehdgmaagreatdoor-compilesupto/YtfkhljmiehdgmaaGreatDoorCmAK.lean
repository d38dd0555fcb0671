/-
  Steps of the proof.
-/
import Derived.Test.YtfkhljmiehdgmaaGreatDoorCmAJ
import Derived.ProofKit
import Derived.OpenShut
import Derived.Lib.LaidTab
import Derived.Test.YtfkhljmiehdgmaaGreatDoorCards
import Derived.Test.YtfkhljmiehdgmaaGreatDoorTie
import Derived.Deep.DeepHandedRow
import Derived.Shelf.Vars
import Derived.Lay
import Derived.Stop.Joined
set_option maxRecDepth 100000
set_option maxHeartbeats 40000000
namespace Go.Proofs.YtfkhljmiehdgmaaGreatDoor
open Go.RowKit
variable{m:Nat}{b:UInt8}
theorem qsz(x:Pl.Sx)(b:UInt8)(w:World)(he:x.st.esc=false) :
  Calls Tryz.prog 94 #[qap x,.int .u8 b.toNat] w fun e w'=>e=.returned (qsn (Pl.qa7 x.st.mode x.st.esc b) (!x.st.esc))/\Below w.heap.size w w':=by
 have HV:Hid (Pl.qa7 x.st.mode x.st.esc b=Pl.Mk.none):=by show _=_;unfold Pl.qa7;rw[if_pos he]
 rw[HV.out];unfold qsn qgc Pl.Mk.none qap qaf bs;rw[he];clear HV he;go_enter Tryz.func94,Tryz.ntmps94
 go_wp2_with fail
 refine qb4 Tryz.results94 (w.heap.size+1) _ _ Tryz.underlying160 rfl rfl (q9r w _ _) (by kernel_rfl) rfl ?_;exact⟨rfl,(by repeat(first|refine Below.alloc ?_ (by simp<;>omega) _|exact Below.refl _ _))⟩
theorem qxw(k:Nat)(r:Nat×Nat×List UInt8×Int)(hr:Pl.qe1[k]?=some r)(hn:(Pl.qe1.take k).find? (Pl.qdo m b)=none)(h:Pl.qdo m b r=true):Pl.qa7 m true b=⟨false,r.2.2.2,0,0⟩:=by
 unfold Pl.qa7;rw[if_neg (by simp),Pl.qnp _ k r hr hn h]
theorem qva(hn:(Pl.qe1.take 3).find? (Pl.qdo m b)=none):Pl.qa7 m true b=Pl.Mk.none:=by
 unfold Pl.qa7;rw[if_neg (by simp),show Pl.qe1=Pl.qe1.take 3 from rfl,hn]
structure EscAt(w0 w:World)(g:Nat)(x:Pl.Sx):Prop where
 at':SxAt w g x
 res:qdg 5 w (g+1)
 below:Below g w0 w
 eq:w0.heap.size=g
theorem EscAt.alloc{w0 w:World}{g:Nat}{x:Pl.Sx}(h:EscAt w0 w g x)(o:Obj):EscAt w0 (w.alloc o) g x:=
 ⟨h.at'.kept ((Below.refl _ w).alloc (Nat.le_refl _) o) (by have:=h.res.lt;omega),h.res.alloc o,h.below.alloc (by have:=h.res.lt;omega) o,h.eq⟩
theorem qp6(x:Pl.Sx)(b:UInt8)(w:World)(ht:PTabs w)(he:x.st.esc=true) :
  Calls Tryz.prog 94 #[qap x,.int .u8 b.toNat] w fun e w'=>e=.returned (qsn (Pl.qa7 x.st.mode x.st.esc b) (!x.st.esc))/\Below w.heap.size w w':=by
 have HE:EscAt w ((w.alloc (.cells (qaf x) 162)).alloc (.cells #[.bool false,.bool false,.int .i64 0,.int .i64 0,.int .i64 0] 160)) w.heap.size x:=
  ⟨(qjq w x _).kept (ba _) (by simp),q22 5 _ _ _ _ (by simp) rfl,(ba _).alloc (by simp) _,rfl⟩
 have HE:=hd HE;rw[he];have HX:=hd he;have HT:=hd ht;clear he ht;unfold qsn qgc;unfold qap;unfold qaf bs at HE |-;rw[HX.out]at HE |-;go_enter Tryz.func94,Tryz.ntmps94
 go_wp2_with fail
 go_loopw [5,6,12] (fun _ _ i wr=>∃k:Nat,k<=3/\i=.int .i64 k/\Hid (EscAt w wr w.heap.size x/\(Pl.qe1.take k).find? (Pl.qdo x.st.mode b)=none)) (fun _ _ i _=>3 - (intOf i).toNat)
 case atStart=>exact⟨0,by omega,rfl,HE.out,rfl⟩
 case round=>
  obtain⟨k,hk,rfl,HR⟩:=hrel;clear HE;by_cases Hc:k<3
  ·obtain⟨r,hr⟩:∃r,Pl.qe1[k]?=some r:=⟨_,List.getElem?_eq_getElem (show k<Pl.qe1.length from Hc)⟩
   have hc:PTabs wr:=HT.out.kept HR.out.1.below;obtain⟨c0,c1,c2,c3⟩:=q6h hc.le k r hr;rw[Nat.mul_comm 4 k]at c0 c1 c2 c3;unfold bs at c2;have HN:=hd HR.out.2;have Ha:=hd HR.out.1;have Hb:=hd hr;have He:(k:Int)<3:=by omega
   have q0:=fun o=>(HR.out.1.alloc o).at'.mode;clear hc hr;by_cases h1:r.1<=x.st.mode
   ·have hf:(r.1:Int)<=(x.st.mode:Int):=by omega
    by_cases h2:x.st.mode<=r.2.1
    ·have Hf:(x.st.mode:Int)<=(r.2.1:Int):=by omega
     by_cases h3:Pl.among b r.2.2.1=true
     ·have HV:=hd (qxw k r Hb.out HN.out (by unfold Pl.qdo;rw[decide_eq_true h1,decide_eq_true h2,h3];rfl))
      have ha:=Ha.out.res;have hb:=Ha.out.below;obtain⟨v0,p0⟩:=Ha.out.res.cellA 0 (by omega);obtain⟨v1,p1⟩:=Ha.out.res.cellA 1 (by omega);obtain⟨v2,p2⟩:=Ha.out.res.cellA 2 (by omega);obtain⟨v3,p3⟩:=Ha.out.res.cellA 3 (by omega);obtain⟨v4,p4⟩:=Ha.out.res.cellA 4 (by omega);have f0:=Ha.out.res.thawA 0;have f1:=Ha.out.res.thawA 1;have f2:=Ha.out.res.thawA 2;have f3:=Ha.out.res.thawA 3;have f4:=Ha.out.res.thawA 4;clear HR;go_wp2_with (go_at_call 130;refine(qb3 b _ r.2.2.1 _ rfl h3).mono ?_;rintro e w' ⟨x',hg,rfl,rfl⟩)
      refine qip Tryz.results94 (w.heap.size+1) _ Tryz.underlying160 rfl (by kernel_rfl) rfl (ha.alloc _) rfl _ _ _ _ _ ?_;rw[HV.out];exact⟨rfl,qmp (hb.alloc hb.size _) (by omega) _ _ _ _ _⟩
     ·have h3:=Bool.eq_false_iff.2 h3
      have HV:=hd (Pl.qc1 (Pl.qdo x.st.mode b) k r Hb.out HN.out (by unfold Pl.qdo;rw[h3];simp));clear HR;go_wp2_with (go_at_call 130;refine(qce b _ r.2.2.1 _ rfl h3).mono ?_;rintro e w' ⟨rfl,rfl⟩)
      go_roundw
      case rel=>exact⟨k+1,by omega,by go_num,Ha.out.alloc _,HV.out⟩
      case measure=>simp[intOf];omega
    ·have Hf:decide (x.st.mode<=r.2.1)=false:=decide_eq_false h2
     have HV:=hd (Pl.qc1 (Pl.qdo x.st.mode b) k r Hb.out HN.out (by unfold Pl.qdo;rw[decide_eq_false h2];simp));clear HR h2;go_wp2_with fail
     go_roundw
     case rel=>exact⟨k+1,by omega,by go_num,Ha.out.alloc _,HV.out⟩
     case measure=>simp[intOf];omega
   ·have hf:decide (r.1<=x.st.mode)=false:=decide_eq_false h1
    have HV:=hd (Pl.qc1 (Pl.qdo x.st.mode b) k r Hb.out HN.out (by unfold Pl.qdo;rw[decide_eq_false h1];simp));clear HR h1;go_wp2_with fail
    go_roundw
    case rel=>exact⟨k+1,by omega,by go_num,Ha.out.alloc _,HV.out⟩
    case measure=>simp[intOf];omega
  ·obtain rfl:k=3:=by omega
   have HV:=hd (qva HR.out.2);have ha:=HR.out.1.res;have hb:=HR.out.1.below;obtain⟨v0,p0⟩:=ha.cell 0 (by omega);obtain⟨v1,p1⟩:=ha.cell 1 (by omega);obtain⟨v2,p2⟩:=ha.cell 2 (by omega);obtain⟨v3,p3⟩:=ha.cell 3 (by omega);obtain⟨v4,p4⟩:=ha.cell 4 (by omega);have f0:=ha.thaw 0;have f1:=ha.thaw 1;have f2:=ha.thaw 2;have f3:=ha.thaw 3;have f4:=ha.thaw 4;clear HR;go_wp2_with fail
   refine qip Tryz.results94 (w.heap.size+1) _ Tryz.underlying160 rfl (by kernel_rfl) rfl ha rfl _ _ _ _ _ ?_;rw[HV.out];exact⟨rfl,qmp hb (by omega) _ _ _ _ _⟩
theorem qxx(x:Pl.Sx)(b:UInt8)(w:World)(ht:PTabs w) :
  Calls Tryz.prog 94 #[qap x,.int .u8 b.toNat] w fun e w'=>e=.returned (qsn (Pl.qa7 x.st.mode x.st.esc b) (!x.st.esc))/\Below w.heap.size w w':=by
 by_cases he:x.st.esc=true
 ·exact qp6 x b w ht he
 ·exact qsz x b w (Bool.eq_false_iff.2 he)
section
variable {w0 w w':World}{g:Nat}{x:Pl.Sx}{k k':Pl.Mk}{t:TypeId}{fz:Nat×Nat}{u0 u1 u2 u3 u4:Value}
structure Mk3(w0 w:World)(x:Pl.Sx)(k:Pl.Mk):Prop where
 sp:w.heap[w0.heap.size]?=some (.cells (qaf x) 162 (0,0))
 res:w.heap[w0.heap.size+1]?=some (.cells (qgc ⟨false,0,0,0⟩ false) 160 (0,0))
 tt:w.heap[w0.heap.size+1+1]?=some (.cells (qgc k false) 160 (0,0))
 low:Below w0.heap.size w0 w
theorem Mk3.kept(h:Mk3 w0 w x k)(hb:Below w.heap.size w w'):Mk3 w0 w' x k:=by
 have:=(Array.getElem?_eq_some_iff.1 h.tt).1;exact⟨(hb.block _ (by omega)).trans h.sp,(hb.block _ (by omega)).trans h.res,(hb.block _ (by omega)).trans h.tt,h.low.trans (hb.mono (by omega))⟩
theorem Mk3.put(h:Mk3 w0 w x k)(j:Nat)(v:Value)(e:(qgc k false).set! j v=qgc k' false):Mk3 w0 (w.setCell ⟨w0.heap.size+1+1,j,none⟩ v) x k':=by
 refine⟨(heap_setCell_other _ _ _ _ (by show w0.heap.size≠w0.heap.size+1+1;omega)).trans h.sp,(heap_setCell_other _ _ _ _ (by show w0.heap.size+1≠w0.heap.size+1+1;omega)).trans h.res,?_,h.low.setCell (by show w0.heap.size<=w0.heap.size+1+1;omega) _⟩;rw[<-e];exact heap_setCell_same w _ j _ _ _ h.tt
theorem Mk3.start(w0:World)(x:Pl.Sx)(k:Pl.Mk):Mk3 w0 (((w0.alloc (.cells (qaf x) 162)).alloc (.cells (qgc ⟨false,0,0,0⟩ false) 160)).alloc (.cells (qgc k false) 160)) x k:=
 ⟨(heap_alloc_old _ _ (by simp;omega)).trans ((heap_alloc_old _ _ (by simp)).trans (heap_alloc_new w0 _)),(heap_alloc_old _ _ (by simp)).trans (qal _ _ _ (by simp)),qal _ _ _ (by simp),((ba _).alloc (by simp) _).alloc (by simp;omega) _⟩
end
theorem q0h(x:Pl.Sx)(b:UInt8)(w:World)(hx:-1000<=x.ma.hex/\x.ma.hex<=1000)(hy:-1000<=x.ma.pct/\x.ma.pct<=1000) :
  Calls Tryz.prog 133 #[qap x,.int .u8 b.toNat] w fun e w'=>e=.returned (qsn (Pl.qcd x.st.kind x.st.mode x.ma b) false)/\Below w.heap.size w w':=by
 have hI:=fun w=>qdr x w;have hW:=fun w=>qdy x.st.mode w;have Ha:=fun w=>qxu x b w;have hV:Pl.qcd x.st.kind x.st.mode x.ma b=⟨if(Pl.qat x.st.mode==1)=true then b==38 || (x.ma.ref && Pl.quy b)else false,Pl.qdt x.ma.hex b,if Pl.qba x.st.kind x.st.mode=true then(if b=37 then 2 else Pl.qdt x.ma.pct b)else 0,if Pl.qba x.st.kind x.st.mode=true then Pl.qdu x.st.kind x.st.mode x.ma.far b else 0⟩:=by
  unfold Pl.qcd;simp only[beq_iff_eq]
 rw[hV];have H0:=hd (Mk3.start w x ⟨false,Pl.qdt x.ma.hex b,0,0⟩);generalize Pl.qat x.st.mode=WA at hW |-;generalize Pl.qba x.st.kind x.st.mode=IL at hI |-;generalize Pl.qdu x.st.kind x.st.mode x.ma.far b=FA at Ha |-;generalize hQ:(fun(e:Ending) (w':World)=>e=.returned (qsn _ false)/\Below w.heap.size w w')=Q;have HQ:=hd hQ;have Hb:=hd (And.intro hx hy);clear hV hQ hx hy;unfold qgc at H0;unfold qap qaf bs at hI Ha |-;unfold qaf bs at H0;have HI:=hd hI;have HW:=hd hW;have He:=hd Ha;clear hI hW Ha;go_enter Tryz.func133,Tryz.ntmps133
 go_upto_if 15 with(first|(go_at_call 182;refine(qu6 _ b _ Hb.out.1.1 Hb.out.1.2).mono ?_;rintro e w' ⟨rfl,rfl⟩)|(go_at_call 154;refine(HW.out _).mono ?_;rintro e w' ⟨rfl,rfl⟩))
 generalize World.alloc _ _=w2 at H0 |-;go_cut [] (fun wx=>Hid (Mk3 w wx x ⟨if(WA==1)=true then b==38 || (x.ma.ref && Pl.quy b)else false,Pl.qdt x.ma.hex b,0,0⟩))
 case first=>
  cases hc:WA==1
  ·have ha:=hd hc
   clear hc;go_wp2_with fail
   go_meet
   rw[ha.out,if_neg Bool.false_ne_true];exact H0
  have ha:=hd hc;have t0:=qaa H0.out.tt 0 _ rfl;have g0:=frozen_of_row _ _ 0 _ _ H0.out.tt;have q5:=qaa H0.out.sp 5 _ rfl;have HP:Hid (∀v:Bool,Mk3 w (w2.setCell ⟨w.heap.size+1+1,0,none⟩ (.bool v)) x ⟨v,Pl.qdt x.ma.hex b,0,0⟩):=fun v=>H0.out.put 0 _ (by rfl);clear hc;rcases Bool.eq_false_or_eq_true (b==38)with hb|hb
  ·have Hc:((b.toNat:Int)==38)=true:=(Pl.qh5 b 38 (by omega)).trans hb
   have HB:=hd hb;clear hb;go_wp2_with fail
   go_meet
   rw[ha.out,if_pos rfl,HB.out];exact HP.out true
  have Hc:((b.toNat:Int)==38)=false:=(Pl.qh5 b 38 (by omega)).trans hb;have HB:=hd hb;clear hb;rcases Bool.eq_false_or_eq_true x.ma.ref with hr|hr
  ·rw[hr]at q5
   have HR:=hd hr;clear hr;go_wp2_with (go_at_call 183;refine(q37 b _).mono ?_;rintro e w' ⟨rfl,rfl⟩)
   go_meet
   rw[ha.out,if_pos rfl,HB.out,HR.out];exact HP.out _
  ·rw[hr]at q5
   have HR:=hd hr;clear hr;go_wp2_with fail
   go_meet
   rw[ha.out,if_pos rfl,HB.out,HR.out];exact HP.out false
 case rest=>
 have H1:=hd hcut.out;clear hcut H0;generalize (if(WA==1)=true then b==38 || (x.ma.ref && Pl.quy b)else false)=RF at H1 HQ;obtain⟨q0,q1,q2,q3,q4,q5,q6,q7,q8,q9⟩:=(show _/\_/\_/\_/\_/\_/\_/\_/\_/\_ from⟨qaa H1.out.sp 0 _ rfl,qaa H1.out.sp 1 _ rfl,qaa H1.out.sp 2 _ rfl,qaa H1.out.sp 3 _ rfl,qaa H1.out.sp 4 _ rfl,qaa H1.out.sp 5 _ rfl,qaa H1.out.sp 6 _ rfl,qaa H1.out.sp 7 _ rfl,qaa H1.out.sp 8 _ rfl,qaa H1.out.sp 9 _ rfl⟩);unfold bs at q1 q2;go_upto_if 29 with(go_at_call 153;refine(HI.out _).mono ?_;rintro e w' ⟨rfl,rfl⟩)
 have H2:=hd (H1.out.kept ((Below.refl wc.heap.size wc).alloc (Nat.le_refl _) (.cells #[.int .u8 (x.st.mode:Int),.string ⟨x.st.name.toArray⟩,.string ⟨x.st.elem.toArray⟩,.int .i64 x.st.kind,.int .i64 (x.st.read:Int),.bool x.ma.ref,.bool x.st.esc,.int .i64 x.ma.hex,.int .i64 x.ma.pct,.int .i64 x.ma.far] 162)));generalize World.alloc wc _=w3 at H2 |-;go_cut [] (fun wx=>Hid (Mk3 w wx x ⟨RF,Pl.qdt x.ma.hex b,if IL=true then(if b=37 then 2 else Pl.qdt x.ma.pct b)else 0,if IL=true then FA else 0⟩))
 case first=>
  cases IL
  ·go_wp2_with fail
   go_meet
   exact H2
  clear q0 q1 q2 q3 q4 q5 q6 q7 q8 q9 H1;have q8:=qaa H2.out.sp 8 _ rfl;have t3:=qaa H2.out.tt 3 _ rfl;have g3:=frozen_of_row _ _ 3 _ _ H2.out.tt;go_upto_region 6 with(go_at_call 182;refine(qu6 _ b _ Hb.out.2.1 Hb.out.2.2).mono ?_;rintro e w' ⟨rfl,rfl⟩)
  have H3:Hid (Mk3 w (w3.setCell ⟨w.heap.size+1+1,3,none⟩ (.int .i64 (Pl.qdt x.ma.pct b))) x ⟨RF,Pl.qdt x.ma.hex b,Pl.qdt x.ma.pct b,0⟩):=H2.out.put 3 _ (by rfl);generalize World.setCell w3 _ _=w4 at H3 |-;clear q8 t3 g3;have t3:=qaa H3.out.tt 3 _ rfl;have g3:=frozen_of_row _ _ 3 _ _ H3.out.tt;go_upto_if 37 with fail
  go_cut [] (fun wx=>Hid (Mk3 w wx x ⟨RF,Pl.qdt x.ma.hex b,if b=37 then 2 else Pl.qdt x.ma.pct b,0⟩))
  case first=>
   by_cases hb:b=37
   ·subst hb
    go_wp2_with fail
    go_meet
    exact H3.out.put 3 _ (by rfl)
   ·have Hc:((b.toNat:Int)==37)=false:=(Pl.qh5 b 37 (by omega)).trans (beq_eq_false_iff_ne.2 hb)
    have HB:=hd hb;clear hb;go_wp2_with fail
    go_meet
    rw[if_neg HB.out];exact H3
  case rest=>
  have H4:=hd hcut.out;clear hcut H3 H2 t3 g3;obtain⟨q0,q1,q2,q3,q4,q5,q6,q7,q8,q9⟩:=(show _/\_/\_/\_/\_/\_/\_/\_/\_/\_ from⟨qaa H4.out.sp 0 _ rfl,qaa H4.out.sp 1 _ rfl,qaa H4.out.sp 2 _ rfl,qaa H4.out.sp 3 _ rfl,qaa H4.out.sp 4 _ rfl,qaa H4.out.sp 5 _ rfl,qaa H4.out.sp 6 _ rfl,qaa H4.out.sp 7 _ rfl,qaa H4.out.sp 8 _ rfl,qaa H4.out.sp 9 _ rfl⟩);unfold bs at q1 q2;go_wp2_with (go_at_call 184;refine(He.out _).mono ?_;rintro e w5 ⟨rfl,he⟩;have H5:=hd (H4.out.kept he);clear he;have t4:=qaa H5.out.tt 4 _ rfl;have g4:=frozen_of_row _ _ 4 _ _ H5.out.tt)
  go_meet
  exact H5.out.put 4 _ (by rfl)
 case rest=>
 have H3:=hd hcut.out;clear hcut H2 H1 q0 q1 q2 q3 q4 q5 q6 q7 q8 q9;generalize (if IL=true then(if b=37 then 2 else Pl.qdt x.ma.pct b)else 0)=PC at H3 HQ;generalize (if IL=true then FA else 0)=FR at H3 HQ;obtain⟨t0,t1,t2,t3,t4⟩:=q74 H3.out.tt;obtain⟨r0,r1,r2,r3,r4⟩:=q74 H3.out.res;obtain⟨f0,f1,f2,f3,f4⟩:=za9 H3.out.res;go_wp2_with fail
 refine qip Tryz.results133 (w.heap.size+1) _ Tryz.underlying160 rfl (by kernel_rfl) rfl ⟨_,_,H3.out.res,rfl⟩ rfl _ _ _ _ _ ?_;rw[<-HQ.out];exact⟨rfl,qmp H3.out.low (by simp) _ _ _ _ _⟩
variable{s:Pl.St}
theorem qxe(h:s.mode=3):s.named=⟨3,[],Pl.qax s.name,s.kind,s.read,s.esc⟩:=by
 unfold Pl.St.named;rw[if_pos h,if_neg (by omega),h]
theorem q07(h:s.mode=5):s.named=⟨5,[],s.elem,Pl.qcx s.name,s.read,s.esc⟩:=by
 unfold Pl.St.named;rw[if_neg (by omega),if_pos h,h]
theorem qxf(h:¬s.mode=3)(h':¬s.mode=5):s.named=⟨s.mode,[],s.elem,s.kind,s.read,s.esc⟩:=by
 unfold Pl.St.named;rw[if_neg h,if_neg h']
theorem q3q(x:Pl.Sx)(w:World)(ht:PTabs w) :
  Calls Tryz.prog 134 #[qap x] w fun e w'=>e=.returned (qap ⟨x.st.named,x.ma⟩)/\(w.alloc (.cells (qaf ⟨x.st.named,x.ma⟩) 162)).alloc (.cells (qaf ⟨x.st.named,x.ma⟩) 162)=w':=by
 obtain⟨s,k⟩:=x;unfold qap qaf bs;by_cases h3:s.mode=3
 ·have HV:Hid (s.named=_):=qxe h3
  simp only;rw[h3];go_enter Tryz.func134,Tryz.ntmps134
  go_wp2_with (go_at_call 185;refine(qs6 s.name _ (by repeat(first|exact ht|apply PTabs.alloc|apply PTabs.drew))).mono ?_;rintro e w' ⟨rfl,rfl⟩)
  refine qb4 Tryz.results134 (w.heap.size+1) _ _ Tryz.underlying162 rfl rfl (qal _ _ _ (by simp)) (by kernel_rfl) rfl ?_;rw[HV.out];exact⟨rfl,rfl⟩
 by_cases h5:s.mode=5
 ·have HV:Hid (s.named=_):=q07 h5
  simp only;rw[h5];go_enter Tryz.func134,Tryz.ntmps134
  go_wp2_with (go_at_call 186;refine(q1f s.name _ (by repeat(first|exact ht|apply PTabs.alloc|apply PTabs.drew))).mono ?_;rintro e w' ⟨rfl,rfl⟩)
  refine qb4 Tryz.results134 (w.heap.size+1) _ _ Tryz.underlying162 rfl rfl (qal _ _ _ (by simp)) (by kernel_rfl) rfl ?_;rw[HV.out];exact⟨rfl,rfl⟩
 have ha:((s.mode:Int)==3)=false:=by rw[beq_eq_false_iff_ne];omega
 have Ha:((s.mode:Int)==5)=false:=by rw[beq_eq_false_iff_ne];omega
 have HV:Hid (s.named=_):=qxf h3 h5;simp only;clear h3 h5 ht;go_enter Tryz.func134,Tryz.ntmps134
 go_wp2_with fail
 refine qb4 Tryz.results134 (w.heap.size+1) _ _ Tryz.underlying162 rfl rfl (qal _ _ _ (by simp)) (by kernel_rfl) rfl ?_;rw[HV.out];exact⟨rfl,rfl⟩
theorem qq4(n:List UInt8)(b:UInt8)(w:World)(hn:n.length<=9) :
  Calls Tryz.prog 135 #[.string ⟨n.toArray⟩,.int .u8 b.toNat] w fun e w'=>e=.returned (.string ⟨(Pl.qc4 n b).toArray⟩)/\Below w.heap.size w w':=by
 by_cases h9:n.length=9
 ·exact(qxk n b w h9).mono fun e w' h=>⟨h.1,h.2▸Below.refl _ _⟩
 ·exact(qxj n b w hn h9).mono fun e w' h=>⟨h.1,h.2▸ba _⟩
theorem q9e(x:Pl.Sx)(tq:Nat)(b:UInt8)(w:World)(ht:PTabs w)(hn:x.st.name.length<=9)(hm:x.st.mode<=33)(he:x.st.esc=false)(hx:-1000<=x.ma.hex/\x.ma.hex<=1000)(hy:-1000<=x.ma.pct/\x.ma.pct<=1000) :
  Calls Tryz.prog 96 #[qap x,.int .u8 tq,.int .u8 b.toNat] w fun e w'=>e=.returned (qap (x.led tq b))/\Below w.heap.size w w':=by
 have hS:=fun w=>q0h x b w hx hy;have hN:=fun(w:World) ht=>(q3q x w ht).mono (R':=fun e w'=>e=.returned (qap ⟨x.st.named,x.ma⟩)/\Below w.heap.size w w') fun e w' h=>⟨h.1,h.2▸(ba _).alloc (by simp) _⟩;obtain⟨⟨M,nm,el,kd,rd,es⟩,k⟩:=x;simp only at hn hm he hS hN;subst he;obtain⟨V,hV⟩:∃V,Pl.Sx.led ⟨⟨M,nm,el,kd,rd,false⟩,k⟩ tq b=V:=⟨_,rfl⟩;rw[hV];have hc:V=if tq=M then⟨Pl.St.led1 ⟨M,nm,el,kd,rd,false⟩ tq b,if tq=34 then Pl.Mk.none else Pl.qcd kd M k b⟩else⟨Pl.St.led1 (Pl.St.named ⟨M,nm,el,kd,rd,false⟩) tq b,if tq=34 then Pl.Mk.none else Pl.Mk.none⟩:=by
  rw[<-hV];unfold Pl.Sx.led Pl.St.led Pl.qlj;by_cases e:tq=M
  ·rw[if_pos e,if_pos e]
   by_cases e2:tq=34
   ·rw[if_neg (fun q=>q.2 e2),if_pos e2]
   ·rw[if_pos ⟨e,e2⟩,if_neg e2]
  ·rw[if_neg e,if_neg e,if_neg (fun q=>e q.1),ite_self]
 obtain⟨n1,n2,n3,Hc⟩:∃n1 n2 n3,Pl.St.named ⟨M,nm,el,kd,rd,false⟩=⟨M,n1,n2,n3,rd,false⟩/\n1.length<=9:=by
  unfold Pl.St.named
  repeat' split
  all_goals exact⟨_,_,_,rfl,by simp⟩
 rw[Hc.1]at hc hN;generalize hQ:(fun(e:Ending) (w':World)=>e=.returned (qap V)/\Below w.heap.size w w')=Q;have H0:=hd (Sx2.start ht (⟨⟨M,nm,el,kd,rd,false⟩,k⟩:Pl.Sx));have HF:Hid (∀(wx:World) (q:Pl.Sx) (a:Act),wx.heap[w.heap.size+1]?=some (.cells (qaf ⟨⟨0,[],[],0,0,false⟩,⟨false,0,0,0⟩⟩) 162 (0,0))->Below w.heap.size w wx->V=q->a.tmps.getD 6 undef=.pointer (some ⟨w.heap.size+1,0,none⟩)->a.defers=[]->bodyPost Tryz.prog Tryz.f96 Q .ret a (qcs wx (w.heap.size+1) (.int .u8 (q.st.mode:Int)) (.string ⟨q.st.name.toArray⟩) (.string ⟨q.st.elem.toArray⟩) (.int .i64 q.st.kind) (.int .i64 (q.st.read:Int)) (.bool q.ma.ref) (.bool q.st.esc) (.int .i64 q.ma.hex) (.int .i64 q.ma.pct) (.int .i64 q.ma.far))):=by
  intro wx q a h hl e h6 hd;refine qj8 Tryz.results96 (w.heap.size+1) _ Tryz.underlying162 rfl (by kernel_rfl) h6 ⟨_,_,h,rfl⟩ hd _ _ _ _ _ _ _ _ _ _ ?_;rw[<-hQ,e];exact⟨rfl,qei hl (by omega) _ _ _ _ _ _ _ _ _ _⟩
 have HV:=hd hc;have Ha:=hd ht;have He:=(show Hid (nm.length<=9/\n1.length<=9)from⟨hn,Hc.2⟩);unfold qap at hS hN |-;unfold qsn qgc at hS;unfold qaf bs at H0 hS hN |-;have HS:=hd hS;have HN:=hd hN;clear hV hc hQ hS hN hn Hc ht;go_enter Tryz.func96,Tryz.ntmps96
 go_upto_region 1 with fail
 generalize World.alloc _ _=w1 at H0 |-;obtain⟨q0,q1,q2,q3,q4,q5,q6,q7,q8,q9⟩:=qb7 H0.out.sp;obtain⟨g0,g1,g2,g3,g4,g5,g6,g7,g8,g9⟩:=qgg H0.out.sp;go_upto_if 10 with fail
 go_cut [] (fun wx=>∃(n1 n2:List UInt8) (n3:Int) (k1:Pl.Mk),Hid (Sx2 w wx ⟨⟨M,n1,n2,n3,rd,false⟩,k1⟩/\n1.length<=9/\V=⟨Pl.St.led1 ⟨M,n1,n2,n3,rd,false⟩ tq b,if tq=34 then Pl.Mk.none else k1⟩))
 case first=>
  by_cases e:tq=M
  ·subst e
   have hv:=HV.out;rw[if_pos rfl]at hv;have hf:=hd hv;clear hv HV;go_wp2_with (go_at_call 133;refine(HS.out _).mono ?_;rintro e w3 ⟨rfl,ha⟩;have H3:=hd (H0.out.kept ha);clear ha;obtain⟨r0,r1,r2,r3,r4,r5,r6,r7,r8,r9⟩:=qb7 H3.out.sp;obtain⟨f0,f1,f2,f3,f4,f5,f6,f7,f8,f9⟩:=qgg H3.out.sp)
   go_meet
   exact⟨nm,el,kd,_,H3.out.marks Ha.out false (Pl.qcd kd tq k b),He.out.1,hf.out⟩
  ·have e':((tq:Int)==(M:Int))=false:=beq_eq_false_iff_ne.2 (by omega)
   have hv:=HV.out;rw[if_neg e]at hv;have hf:=hd hv;clear hv HV e;go_wp2_with (go_at_call 134;refine(HN.out _ H0.out.tabs).mono ?_;rintro e w3 ⟨rfl,ha⟩;have H3:=hd (H0.out.kept ha);clear ha;obtain⟨r0,r1,r2,r3,r4,r5,r6,r7,r8,r9⟩:=qb7 H3.out.sp;obtain⟨f0,f1,f2,f3,f4,f5,f6,f7,f8,f9⟩:=qgg H3.out.sp)
   go_meet
   exact⟨n1,n2,n3,_,(H3.out.all Ha.out ⟨⟨M,n1,n2,n3,rd,false⟩,k⟩).marks Ha.out false Pl.Mk.none,He.out.2,hf.out⟩
 case rest=>
 obtain⟨n1,n2,n3,k1,HC⟩:=hcut;have H1:=hd HC.out.1;have Hb:=hd HC.out.2;clear H0 HV He HC HS HN q0 q1 q2 q3 q4 q5 q6 q7 q8 q9 g0 g1 g2 g3 g4 g5 g6 g7 g8 g9;have q0:=qaa H1.out.sp 0 _ rfl;have g0:=frozen_of_row _ _ 0 _ _ H1.out.sp;go_upto_region 6 with fail
 have H2:Hid (Sx2 w (wc.setCell ⟨w.heap.size,0,none⟩ (.int .u8 tq)) ⟨⟨tq,n1,n2,n3,rd,false⟩,k1⟩):=H1.out.put Ha.out 0 _ (by rfl);generalize World.setCell wc _ _=w2 at H2 |-;clear H1 q0 g0;obtain⟨q0,q1,q2,q3,q4,q5,q6,q7,q8,q9⟩:=qb7 H2.out.sp;obtain⟨g0,g1,g2,g3,g4,g5,g6,g7,g8,g9⟩:=qgg H2.out.sp;by_cases e34:tq=34
 ·subst e34
  obtain⟨r0,r1,r2,r3,r4,r5,r6,r7,r8,r9⟩:=qb7 H2.out.res;obtain⟨f0,f1,f2,f3,f4,f5,f6,f7,f8,f9⟩:=qgg H2.out.res;have HW:=hd (fun w=>(show PTabs w->Calls Tryz.prog 136 #[.string ⟨n2.toArray⟩] w fun e w'=>e=.returned (qap ⟨Pl.qcg n2,Pl.Mk.none⟩)/\Below w.heap.size w w' from fun ht=>(qz4 n2 w ht).mono fun e w' h=>⟨h.1,h.2▸ba _⟩));have hb:Hid (V=⟨Pl.qcg n2,Pl.Mk.none⟩):=Hb.out.2;clear q0 q1 q3 q4 q5 q6 q7 q8 q9 g0 g1 g2 g3 g4 g5 g6 g7 g8 g9 r0 r1 r2 r3 r4 r5 r6 r7 r8 r9 f0 f1 f2 f3 f4 f5 f6 f7 f8 f9;generalize Pl.qcg n2=I at HW hb;unfold qap qaf bs at HW;go_wp2_with (go_at_call 136;refine(HW.out _ H2.out.tabs).mono ?_;rintro e w3 ⟨rfl,ha⟩;have H3:=hd (H2.out.kept ha);clear ha;obtain⟨r0,r1,r2,r3,r4,r5,r6,r7,r8,r9⟩:=qb7 H3.out.res;obtain⟨f0,f1,f2,f3,f4,f5,f6,f7,f8,f9⟩:=qgg H3.out.res)
  exact HF.out _ ⟨I,Pl.Mk.none⟩ _ H3.out.res H3.out.low hb.out rfl rfl
 have hb:Hid (V=⟨Pl.St.led1 ⟨M,n1,n2,n3,rd,false⟩ tq b,k1⟩):=by have:=Hb.out.2;rw[if_neg e34]at this;exact this
 go_upto_block 0 with fail
 go_cut [22,29,37,41] (fun s22 s29 s37 s41 wx=>∃y:Pl.Sx,Hid (Sx2 w wx y/\V=y))
 case first=>
  by_cases k3:tq=3
  ·subst k3
   go_wp2_with (go_at_call 135;refine(qq4 n1 b _ Hb.out.1).mono ?_;rintro e w3 ⟨rfl,ha⟩;have H3:=hd (H2.out.kept ha);clear ha;obtain⟨r0,r1,r2,r3,r4,r5,r6,r7,r8,r9⟩:=qb7 H3.out.sp;obtain⟨f0,f1,f2,f3,f4,f5,f6,f7,f8,f9⟩:=qgg H3.out.sp)
   go_meet
   exact⟨_,H3.out.put (s':=⟨⟨3,Pl.qc4 n1 b,n2,n3,rd,false⟩,k1⟩) Ha.out 1 _ (by rfl),hb.out⟩
  by_cases k5:tq=5
  ·subst k5
   go_wp2_with (go_at_call 135;refine(qq4 n1 b _ Hb.out.1).mono ?_;rintro e w3 ⟨rfl,ha⟩;have H3:=hd (H2.out.kept ha);clear ha;obtain⟨r0,r1,r2,r3,r4,r5,r6,r7,r8,r9⟩:=qb7 H3.out.sp;obtain⟨f0,f1,f2,f3,f4,f5,f6,f7,f8,f9⟩:=qgg H3.out.sp)
   go_meet
   exact⟨_,(H3.out.put (s':=⟨⟨5,Pl.qc4 n1 b,n2,n3,rd,false⟩,k1⟩) Ha.out 1 _ (by rfl)).put (s':=⟨⟨5,Pl.qc4 n1 b,n2,0,rd,false⟩,k1⟩) Ha.out 3 _ (by rfl),hb.out⟩
  by_cases k4:tq=4\/tq=10
  ·rcases k4 with rfl|rfl
   all_goals
    go_wp2_with fail
    go_meet
    exact⟨_,H2.out.put (s':=⟨⟨_,n1,n2,0,rd,false⟩,k1⟩) Ha.out 3 _ (by rfl),hb.out⟩
  have hk:((tq:Int)==3)=false/\((tq:Int)==5)=false/\((tq:Int)==4)=false/\((tq:Int)==10)=false/\((tq:Int)==34)=false:=by simp;omega
  obtain⟨e1,e2,e3,e4,e5⟩:=hk;have Hf:Hid (V=⟨⟨tq,n1,n2,n3,rd,false⟩,k1⟩):=by have:=hb.out;unfold Pl.St.led1 at this;rw[if_neg k3,if_neg k5,if_neg k4,if_neg e34]at this;exact this
  clear k3 k5 k4 e34;go_wp2_with fail
  go_meet
  exact⟨_,H2.out,Hf.out⟩
 case rest=>
 obtain⟨y,HY⟩:=hcut;clear q0 q1 q2 q3 q4 q5 q6 q7 q8 q9 g0 g1 g2 g3 g4 g5 g6 g7 g8 g9 H2 hb Hb;obtain⟨q0,q1,q2,q3,q4,q5,q6,q7,q8,q9⟩:=qb7 HY.out.1.sp;obtain⟨r0,r1,r2,r3,r4,r5,r6,r7,r8,r9⟩:=qb7 HY.out.1.res;obtain⟨f0,f1,f2,f3,f4,f5,f6,f7,f8,f9⟩:=qgg HY.out.1.res;unfold bs at q1 q2;go_wp2_with fail
 exact HF.out _ y _ HY.out.1.res HY.out.1.low HY.out.2 rfl rfl
theorem qy2(a b c:Nat):Pl.or3 a b c=if a≠0 then a else if b≠0 then b else c:=rfl
theorem zan(a b c:Nat)(g:Nat)(w:World)(h0:w.cell? ⟨g,0,none⟩=some (.int .u8 (a:Int)))(h1:w.cell? ⟨g,1,none⟩=some (.int .u8 (b:Int)))(h2:w.cell? ⟨g,2,none⟩=some (.int .u8 (c:Int))) :
  Calls Tryz.prog 97 #[.slice (some ⟨g,0,none⟩) 3 3] w fun e w'=>e=.returned (.int .u8 (Pl.or3 a b c:Nat))/\w=w':=by
 generalize Ha:Pl.or3 a b c=r;have HO:Hid (Pl.or3 a b c=r):=Ha;clear Ha;go_enter Tryz.func97,Tryz.ntmps97
 go_wp2
 go_loop [5,8] (fun _ i=>∃k:Nat,k<=3/\i=.int .i64 k/\(1<=k->a=0)/\(2<=k->b=0)/\(3<=k->c=0)) (fun _ i=>3 - (intOf i).toNat)
 case atStart=>exact⟨0,by omega,rfl,by omega,by omega,by omega⟩
 case round=>
  obtain⟨k,hk,rfl,g1,g2,g3⟩:=hrel;have H1:Hid (1<=k->a=0):=g1;have H2:Hid (2<=k->b=0):=g2;have H3:Hid (3<=k->c=0):=g3;clear g1 g2 g3;rcases(show k=0\/k=1\/k=2\/k=3 by omega)with rfl|rfl|rfl|rfl
  ·by_cases hq:a=0
   ·have HQ:Hid (a=0):=hq
    have ha:((a:Int) != 0)=false:=by rw[hq];rfl
    clear hq;go_wp2
    go_round
    case rel=>exact⟨1,by omega,rfl,fun _=>HQ.out,by omega,by omega⟩
    case measure=>simp[intOf]
   ·have q0:a≠0:=hq
    have HV:Hid (r=a):=by show _=_;rw[<-HO.out,qy2,if_pos q0]
    have ha:((a:Int) != 0)=true:=by rw[bne_iff_ne];omega
    clear hq q0;go_wp2
    go_ret
    exact⟨qan (by rw[HV.out]),rfl⟩
  ·by_cases hq:b=0
   ·have HQ:Hid (b=0):=hq
    have ha:((b:Int) != 0)=false:=by rw[hq];rfl
    clear hq;go_wp2
    go_round
    case rel=>exact⟨2,by omega,rfl,fun _=>H1.out (by omega),fun _=>HQ.out,by omega⟩
    case measure=>simp[intOf]
   ·have q0:b≠0:=hq
    have HV:Hid (r=b):=by show _=_;rw[<-HO.out,qy2,if_neg (by simp[H1.out (by omega)]),if_pos q0]
    have ha:((b:Int) != 0)=true:=by rw[bne_iff_ne];omega
    clear hq q0;go_wp2
    go_ret
    exact⟨qan (by rw[HV.out]),rfl⟩
  ·by_cases hq:c=0
   ·have HQ:Hid (c=0):=hq
    have ha:((c:Int) != 0)=false:=by rw[hq];rfl
    clear hq;go_wp2
    go_round
    case rel=>exact⟨3,by omega,rfl,fun _=>H1.out (by omega),fun _=>H2.out (by omega),fun _=>HQ.out⟩
    case measure=>simp[intOf]
   ·have q0:c≠0:=hq
    have HV:Hid (r=c):=by show _=_;rw[<-HO.out,qy2,if_neg (by simp[H1.out (by omega)]),if_neg (by simp[H2.out (by omega)])]
    have ha:((c:Int) != 0)=true:=by rw[bne_iff_ne];omega
    clear hq q0;go_wp2
    go_ret
    exact⟨qan (by rw[HV.out]),rfl⟩
  ·have HV:Hid (r=0):=by show _=_;rw[<-HO.out,qy2,if_neg (by simp[H1.out (by omega)]),if_neg (by simp[H2.out (by omega)])];exact H3.out (by omega)
   go_wp2
   go_ret
   exact⟨qan (by rw[HV.out];rfl),rfl⟩
theorem q3p(a b c g:Nat)(w:World)(t:TypeId)(hg:w.heap.size=g) :
  Calls Tryz.prog 97 #[.slice (some ⟨g,0,none⟩) 3 3] (w.alloc (.cells #[.int .u8 (a:Int),.int .u8 (b:Int),.int .u8 (c:Int)] t)).drew fun e w'=>e=.returned (.int .u8 (Pl.or3 a b c:Nat))/\(w.alloc (.cells #[.int .u8 (a:Int),.int .u8 (b:Int),.int .u8 (c:Int)] t)).drew=w':=by
 subst hg;have h:=qaa (heap_alloc_new w (.cells #[.int .u8 (a:Int),.int .u8 (b:Int),.int .u8 (c:Int)] t));exact zan a b c _ _ (h 0 _ rfl) (h 1 _ rfl) (h 2 _ rfl)
variable{l:List Pl.Step}{m k:Nat}{c:UInt8}{r:Pl.Step}
theorem qii(hr:l[k]?=some r)(hn:(l.take k).find? (Pl.hit m c)=none)(h1:r.1=m)(h2:Pl.among c r.2.1=true):Pl.lookup l m c=r.2.2:=by
 unfold Pl.lookup;rw[Pl.qnp _ k r hr hn (by simp[Pl.hit,h1,h2])]
theorem qih(hk:l.length<=k)(hn:(l.take k).find? (Pl.hit m c)=none):Pl.lookup l m c=0:=by
 rw[List.take_of_length_le hk]at hn;unfold Pl.lookup;rw[hn]
theorem qnx(h:¬r.1=m):Pl.hit m c r=false:=by simp[Pl.hit,h]
theorem qnw(h:Pl.among c r.2.1=false):Pl.hit m c r=false:=by simp[Pl.hit,h]
theorem q0f(m:Nat)(b:UInt8)(w:World)(ht:PTabs w)(Hb:m<19) :
  Calls Tryz.prog 95 #[.int .u8 m,.int .u8 b.toNat] w fun e w'=>e=.returned (.int .u8 (Pl.qc3 m b:Nat))/\w=w':=by
 have hT:=fun(k:Nat) (r:Pl.Step) (hk:Pl.qbs[k]?=some r)=>qyu ht.mt k r hk;have hc:(m:Int)<19:=by omega
 clear ht;by_cases hl:Pl.qc2 b=true
 ·have HS:Hid (Pl.qc3 m b=Pl.lookup Pl.qbs m 97):=by show _=_;unfold Pl.qc3 Pl.qd8;rw[if_pos Hb,if_pos hl]
  go_enter Tryz.func95,Tryz.ntmps95
  go_wp2_with (go_at_call 132;refine(qfw b _).mono ?_;rintro e w' ⟨rfl,rfl⟩)
  go_loop [5,12] (fun _ i=>∃k:Nat,k<=36/\i=.int .i64 k/\(Pl.qbs.take k).find? (Pl.hit m 97)=none) (fun _ i=>36 - (intOf i).toNat)
  case atStart=>exact⟨0,by omega,rfl,rfl⟩
  case round=>
   obtain⟨k,hk,rfl,hn⟩:=hrel;have HN:Hid ((Pl.qbs.take k).find? (Pl.hit m 97)=none):=hn;clear hn;by_cases ha:k<36
   ·obtain⟨r,hr⟩:∃r,Pl.qbs[k]?=some r:=⟨_,List.getElem?_eq_getElem (show k<Pl.qbs.length from ha)⟩
    obtain⟨q0,q1,q2⟩:=hT k r hr;unfold bs at q1;have HR:Hid (Pl.qbs[k]?=some r):=hr;clear hr hT;by_cases hq:r.1=m
    ·have Ha:((r.1:Int)==(m:Int))=true:=by rw[hq];simp
     have HQ:Hid (r.1=m):=hq;clear hq;by_cases hb:Pl.among 97 r.2.1=true
     ·have HB:Hid (Pl.among 97 r.2.1=true):=hb
      clear hb;go_wp2_with (go_at_call 130;refine(qb3 97 _ r.2.1 _ rfl HB.out).mono ?_;rintro e w' ⟨x,hx,rfl,rfl⟩)
      go_ret
      exact⟨qan (by rw[HS.out,qii HR.out HN.out HQ.out HB.out]),rfl⟩
     ·have HB:Hid (Pl.among 97 r.2.1=false):=Bool.eq_false_iff.2 hb
      clear hb;go_wp2_with (go_at_call 130;refine(qce 97 _ r.2.1 _ rfl HB.out).mono ?_;rintro e w' ⟨rfl,rfl⟩)
      go_round
      case rel=>exact⟨k+1,by omega,by go_num,Pl.qc1 _ k r HR.out HN.out (qnw HB.out)⟩
      case measure=>simp[intOf];omega
    ·have Ha:((r.1:Int)==(m:Int))=false:=by rw[beq_eq_false_iff_ne];omega
     have HQ:Hid (¬r.1=m):=hq;clear hq;go_wp2_with fail
     go_round
     case rel=>exact⟨k+1,by omega,by go_num,Pl.qc1 _ k r HR.out HN.out (qnx HQ.out)⟩
     case measure=>simp[intOf];omega
   ·have HE:Hid (Pl.lookup Pl.qbs m 97=0):=qih (show Pl.qbs.length<=k by show 36<=k;omega) HN.out
    clear hT;go_wp2_with fail
    go_ret
    exact⟨qan (by rw[HS.out,HE.out];rfl),rfl⟩
 ·have hl:=Bool.eq_false_iff.2 hl
  have HS:Hid (Pl.qc3 m b=Pl.lookup Pl.qbs m b):=by show _=_;unfold Pl.qc3 Pl.qd8;rw[if_pos Hb,hl];rfl
  go_enter Tryz.func95,Tryz.ntmps95
  go_wp2_with (go_at_call 132;refine(qfw b _).mono ?_;rintro e w' ⟨rfl,rfl⟩)
  go_loop [5,12] (fun _ i=>∃k:Nat,k<=36/\i=.int .i64 k/\(Pl.qbs.take k).find? (Pl.hit m b)=none) (fun _ i=>36 - (intOf i).toNat)
  case atStart=>exact⟨0,by omega,rfl,rfl⟩
  case round=>
   obtain⟨k,hk,rfl,hn⟩:=hrel;have HN:Hid ((Pl.qbs.take k).find? (Pl.hit m b)=none):=hn;clear hn;by_cases ha:k<36
   ·obtain⟨r,hr⟩:∃r,Pl.qbs[k]?=some r:=⟨_,List.getElem?_eq_getElem (show k<Pl.qbs.length from ha)⟩
    obtain⟨q0,q1,q2⟩:=hT k r hr;unfold bs at q1;have HR:Hid (Pl.qbs[k]?=some r):=hr;clear hr hT;by_cases hq:r.1=m
    ·have Ha:((r.1:Int)==(m:Int))=true:=by rw[hq];simp
     have HQ:Hid (r.1=m):=hq;clear hq;by_cases hb:Pl.among b r.2.1=true
     ·have HB:Hid (Pl.among b r.2.1=true):=hb
      clear hb;go_wp2_with (go_at_call 130;refine(qb3 b _ r.2.1 _ rfl HB.out).mono ?_;rintro e w' ⟨x,hx,rfl,rfl⟩)
      go_ret
      exact⟨qan (by rw[HS.out,qii HR.out HN.out HQ.out HB.out]),rfl⟩
     ·have HB:Hid (Pl.among b r.2.1=false):=Bool.eq_false_iff.2 hb
      clear hb;go_wp2_with (go_at_call 130;refine(qce b _ r.2.1 _ rfl HB.out).mono ?_;rintro e w' ⟨rfl,rfl⟩)
      go_round
      case rel=>exact⟨k+1,by omega,by go_num,Pl.qc1 _ k r HR.out HN.out (qnw HB.out)⟩
      case measure=>simp[intOf];omega
    ·have Ha:((r.1:Int)==(m:Int))=false:=by rw[beq_eq_false_iff_ne];omega
     have HQ:Hid (¬r.1=m):=hq;clear hq;go_wp2_with fail
     go_round
     case rel=>exact⟨k+1,by omega,by go_num,Pl.qc1 _ k r HR.out HN.out (qnx HQ.out)⟩
     case measure=>simp[intOf];omega
   ·have HE:Hid (Pl.lookup Pl.qbs m b=0):=qih (show Pl.qbs.length<=k by show 36<=k;omega) HN.out
    clear hT;go_wp2_with fail
    go_ret
    exact⟨qan (by rw[HS.out,HE.out];rfl),rfl⟩
theorem qwq(m:Nat)(b:UInt8)(w:World)(ht:PTabs w)(Hb:¬m<19) :
  Calls Tryz.prog 95 #[.int .u8 m,.int .u8 b.toNat] w fun e w'=>e=.returned (.int .u8 (Pl.qc3 m b:Nat))/\w=w':=by
 have hT:=fun(k:Nat) (r:Pl.Step) (hk:Pl.qbf[k]?=some r)=>qyu ht.ct k r hk;have hc:decide ((m:Int)<19)=false:=by rw[decide_eq_false_iff_not];omega
 clear ht;by_cases hl:Pl.qc2 b=true
 ·have HS:Hid (Pl.qc3 m b=Pl.lookup Pl.qbf m 97):=by show _=_;unfold Pl.qc3 Pl.qd8;rw[if_neg Hb,if_pos hl]
  go_enter Tryz.func95,Tryz.ntmps95
  go_wp2_with (go_at_call 132;refine(qfw b _).mono ?_;rintro e w' ⟨rfl,rfl⟩)
  go_loop [6,35] (fun _ i=>∃k:Nat,k<=22/\i=.int .i64 k/\(Pl.qbf.take k).find? (Pl.hit m 97)=none) (fun _ i=>22 - (intOf i).toNat)
  case atStart=>exact⟨0,by omega,rfl,rfl⟩
  case round=>
   obtain⟨k,hk,rfl,hn⟩:=hrel;have HN:Hid ((Pl.qbf.take k).find? (Pl.hit m 97)=none):=hn;clear hn;by_cases ha:k<22
   ·obtain⟨r,hr⟩:∃r,Pl.qbf[k]?=some r:=⟨_,List.getElem?_eq_getElem (show k<Pl.qbf.length from ha)⟩
    obtain⟨q0,q1,q2⟩:=hT k r hr;unfold bs at q1;have HR:Hid (Pl.qbf[k]?=some r):=hr;clear hr hT;by_cases hq:r.1=m
    ·have Ha:((r.1:Int)==(m:Int))=true:=by rw[hq];simp
     have HQ:Hid (r.1=m):=hq;clear hq;by_cases hb:Pl.among 97 r.2.1=true
     ·have HB:Hid (Pl.among 97 r.2.1=true):=hb
      clear hb;go_wp2_with (go_at_call 130;refine(qb3 97 _ r.2.1 _ rfl HB.out).mono ?_;rintro e w' ⟨x,hx,rfl,rfl⟩)
      go_ret
      exact⟨qan (by rw[HS.out,qii HR.out HN.out HQ.out HB.out]),rfl⟩
     ·have HB:Hid (Pl.among 97 r.2.1=false):=Bool.eq_false_iff.2 hb
      clear hb;go_wp2_with (go_at_call 130;refine(qce 97 _ r.2.1 _ rfl HB.out).mono ?_;rintro e w' ⟨rfl,rfl⟩)
      go_round
      case rel=>exact⟨k+1,by omega,by go_num,Pl.qc1 _ k r HR.out HN.out (qnw HB.out)⟩
      case measure=>simp[intOf];omega
    ·have Ha:((r.1:Int)==(m:Int))=false:=by rw[beq_eq_false_iff_ne];omega
     have HQ:Hid (¬r.1=m):=hq;clear hq;go_wp2_with fail
     go_round
     case rel=>exact⟨k+1,by omega,by go_num,Pl.qc1 _ k r HR.out HN.out (qnx HQ.out)⟩
     case measure=>simp[intOf];omega
   ·have HE:Hid (Pl.lookup Pl.qbf m 97=0):=qih (show Pl.qbf.length<=k by show 22<=k;omega) HN.out
    clear hT;go_wp2_with fail
    go_ret
    exact⟨qan (by rw[HS.out,HE.out];rfl),rfl⟩
 ·have hl:=Bool.eq_false_iff.2 hl
  have HS:Hid (Pl.qc3 m b=Pl.lookup Pl.qbf m b):=by show _=_;unfold Pl.qc3 Pl.qd8;rw[if_neg Hb,hl];rfl
  go_enter Tryz.func95,Tryz.ntmps95
  go_wp2_with (go_at_call 132;refine(qfw b _).mono ?_;rintro e w' ⟨rfl,rfl⟩)
  go_loop [6,35] (fun _ i=>∃k:Nat,k<=22/\i=.int .i64 k/\(Pl.qbf.take k).find? (Pl.hit m b)=none) (fun _ i=>22 - (intOf i).toNat)
  case atStart=>exact⟨0,by omega,rfl,rfl⟩
  case round=>
   obtain⟨k,hk,rfl,hn⟩:=hrel;have HN:Hid ((Pl.qbf.take k).find? (Pl.hit m b)=none):=hn;clear hn;by_cases ha:k<22
   ·obtain⟨r,hr⟩:∃r,Pl.qbf[k]?=some r:=⟨_,List.getElem?_eq_getElem (show k<Pl.qbf.length from ha)⟩
    obtain⟨q0,q1,q2⟩:=hT k r hr;unfold bs at q1;have HR:Hid (Pl.qbf[k]?=some r):=hr;clear hr hT;by_cases hq:r.1=m
    ·have Ha:((r.1:Int)==(m:Int))=true:=by rw[hq];simp
     have HQ:Hid (r.1=m):=hq;clear hq;by_cases hb:Pl.among b r.2.1=true
     ·have HB:Hid (Pl.among b r.2.1=true):=hb
      clear hb;go_wp2_with (go_at_call 130;refine(qb3 b _ r.2.1 _ rfl HB.out).mono ?_;rintro e w' ⟨x,hx,rfl,rfl⟩)
      go_ret
      exact⟨qan (by rw[HS.out,qii HR.out HN.out HQ.out HB.out]),rfl⟩
     ·have HB:Hid (Pl.among b r.2.1=false):=Bool.eq_false_iff.2 hb
      clear hb;go_wp2_with (go_at_call 130;refine(qce b _ r.2.1 _ rfl HB.out).mono ?_;rintro e w' ⟨rfl,rfl⟩)
      go_round
      case rel=>exact⟨k+1,by omega,by go_num,Pl.qc1 _ k r HR.out HN.out (qnw HB.out)⟩
      case measure=>simp[intOf];omega
    ·have Ha:((r.1:Int)==(m:Int))=false:=by rw[beq_eq_false_iff_ne];omega
     have HQ:Hid (¬r.1=m):=hq;clear hq;go_wp2_with fail
     go_round
     case rel=>exact⟨k+1,by omega,by go_num,Pl.qc1 _ k r HR.out HN.out (qnx HQ.out)⟩
     case measure=>simp[intOf];omega
   ·have HE:Hid (Pl.lookup Pl.qbf m b=0):=qih (show Pl.qbf.length<=k by show 22<=k;omega) HN.out
    clear hT;go_wp2_with fail
    go_ret
    exact⟨qan (by rw[HS.out,HE.out];rfl),rfl⟩
theorem q0g(m:Nat)(b:UInt8)(w:World)(ht:PTabs w) :
  Calls Tryz.prog 95 #[.int .u8 m,.int .u8 b.toNat] w fun e w'=>e=.returned (.int .u8 (Pl.qc3 m b:Nat))/\w=w':=by
 by_cases h:m<19
 ·exact q0f m b w ht h
 ·exact qwq m b w ht h
end Go.Proofs.YtfkhljmiehdgmaaGreatDoor
namespace Go.Proofs.YtfkhljmiehdgmaaGreatDoor
open Go.ChangeShapes Go.WideShapes Go.ChangeAt Go.RowKit
variable{P:Program}
def qhi{H:Type}:Nat->DataW H->List Value
 |0,_=>[]
 |_+1,.lit (.int k n)=>[.int k n]
 |_+1,.lit (.bool b)=>[.bool b]
 |_+1,.lit (.string l)=>[.string ⟨l.toArray⟩]
 |n+1,.agg ps=>ps.flatMap (qhi n)
 |_+1,_=>[]
def q2o(P:Program):Nat->List Field->Option Nat
 |o,[]=>some o
 |o,f::fs=>if f.offset=o then q2o P (o+P.cellsOf f.type) fs else none
def qhx(P:Program):Nat->TypeId->Bool
 |0,_=>false
 |n+1,t=>match P.underlying t with
   |some (.int _)=>true
   |some .bool=>true
   |some .string=>true
   |some (.array k e)=>P.cellsOf t==k*P.cellsOf e && qhx P n e
   |some (.struct fs)=>q2o P 0 fs.toList==some (P.cellsOf t) && fs.toList.all fun f=>qhx P n f.type
   |_=>false
theorem quc{α β:Type}(g:α->List β)(sz:Nat):∀(xs:List α) (cs:List β),cs.length=xs.length*sz->(∀i x,xs[i]?=some x->(cs.drop (i*sz)).take sz=g x)->cs=xs.flatMap g
 |[],cs,h,_=>by simpa using h
 |x::xs,cs,h,hx=>by
   have h0:cs.take sz=g x:=by simpa using hx 0 x rfl
   have ih:=quc g sz xs (cs.drop sz) (by rw[List.length_drop,h,List.length_cons,Nat.succ_mul];omega) (fun i y hy=>by
    have:=hx (i+1) y (by simpa using hy);rw[List.drop_drop,show sz+i*sz=(i+1)*sz by rw[Nat.succ_mul];omega];exact this)
   rw[List.flatMap_cons,<-h0,<-ih,List.take_append_drop]
theorem q2p{α β:Type}(g:α->List β)(cs:List β):∀(fs:List Field) (xs:List α) (o e:Nat),fs.length=xs.length->q2o P o fs=some e->e=cs.length ->
  (∀(i:Nat) (f:Field) (x:α),fs[i]?=some f->xs[i]?=some x->(cs.drop f.offset).take (P.cellsOf f.type)=g x)->cs.drop o=xs.flatMap g
 |[],[],o,e,_,ht,he,_=>by
   simp only[q2o,Option.some.injEq]at ht;subst ht;subst he;simp
 |[],_::_,_,_,hl,_,_,_=>by simp at hl
 |_::_,[],_,_,hl,_,_,_=>by simp at hl
 |f::fs,x::xs,o,e,hl,ht,he,hx=>by
   simp only[q2o]at ht;split at ht
   ·rename_i ho
    have h0:=hx 0 f x rfl rfl;rw[ho]at h0;have ih:=q2p g cs fs xs (o+P.cellsOf f.type) e (by simpa using hl) ht he (fun i f' x' hf ha=>hx (i+1) f' x' (by simpa using hf) (by simpa using ha));rw[List.flatMap_cons,<-h0,<-ih,<-List.drop_drop,List.take_append_drop]
   ·cases ht
theorem qk0{H:Type}{enc:TypeId×Value->H}{w:World}{base:Nat}{sp:Nat->Bool}{ha:Bool}:∀(F fuel:Nat) (t:TypeId) (cs:List Value) (d:DataW H) (p:List MemPlace),
  qhx P F t=true->DataW.trod enc P w base sp ha fuel t cs=some (d,p)->cs=qhi F d
 |0,_,_,_,_,_,h,_=>by simp[qhx]at h
 |F+1,fuel,t,cs,d,p,h,hd=>by
   unfold qhx at h;split at h
   ·rename_i k hu
    obtain⟨n,rfl,e,_⟩:=DataW.trod_int hu hd;cases e;rfl
   ·rename_i hu
    obtain⟨b,rfl,e⟩:=DataW.trod_bool hu hd;cases e;rfl
   ·rename_i hu
    obtain⟨s,rfl,e,_⟩:=DataW.trod_string hu hd;cases e;rfl
   ·rename_i k e hu
    simp only[Bool.and_eq_true,beq_iff_eq]at h;obtain⟨xs,m,rfl,hx,hl,hn,hi⟩:=DataW.trod_array hu hd;cases hx;show cs=(xs.map (·.1)).flatMap (qhi F);rw[List.flatMap_map];refine quc _ (P.cellsOf e) xs cs (by rw[hl,h.1,hn]) ?_;intro i x hx;have Ha:i<k:=by
     have:=(List.getElem?_eq_some_iff.1 hx).1;omega
    have:=hi i Ha;rw[hx]at this;exact qk0 F m e _ x.1 x.2 h.2 this
   ·rename_i fs hu
    simp only[Bool.and_eq_true,beq_iff_eq]at h;obtain⟨xs,m,rfl,hx,hl,hn,hi⟩:=DataW.trod_struct hu hd;cases hx;show cs=(xs.map (·.1)).flatMap (qhi F);rw[List.flatMap_map];have:=q2p (P:=P) (fun x:DataW H×List MemPlace=>qhi F x.1) cs fs.toList xs 0 _ (by simpa using hn.symm) h.1 hl.symm (fun i f x hf hx=>by
     have h1:=hi i f (by simpa using hf);rw[hx]at h1;exact qk0 F m f.type _ x.1 x.2 (List.all_eq_true.1 h.2 f (List.mem_of_getElem? hf)) h1)
    simpa using this
   ·cases h
theorem qcu{W:World}:∀ {laid:List (String×DataW Unit)} {ps:List MemPlace},DataW.LaidVars P W laid ps->∀(i:Nat) (name:String) (d:DataW Unit),laid[i]?=some (name,d) ->
  ∀(g:Nat) (t:TypeId) (F:Nat),P.globalNamed name=some g->(P.globals[g]?).map (·.type)=some t->qhx P F t=true->∀(j:Nat) (v:Value),(qhi F d)[j]?=some v->W.cell? ⟨g,j,none⟩=some v
 |[],_,_,i,_,_,hi=>by simp at hi
 |(n,d)::r,ps,h,i,name,d',hi=>by
   obtain⟨g',t',cs,fuel,p,q,Ha,hb,ha,hd,hr,_⟩:=h;intro g t F hg ht hp j v hv
   match i with
   |0=>
     simp only[List.getElem?_cons_zero,Option.some.injEq,Prod.mk.injEq]at hi;obtain⟨rfl,rfl⟩:=hi;obtain rfl:=Option.some.inj (hg.symm.trans Ha);obtain rfl:=Option.some.inj (ht.symm.trans hb);have e:=qk0 F fuel t _ _ _ hp hd;rw[<-e]at hv;have:=World.var?_cell hg ha j;rw[this];simpa using hv
   |i+1=>exact qcu hr i name d' (by simpa using hi) g t F hg ht hp j v hv
theorem zba:ownKnob Tryz.prog.godebug=none:=by kernel_rfl
theorem gMt:Tryz.prog.globalNamed "stencil/markup.markupSteps"=some 4:=by kernel_rfl
theorem gCt:Tryz.prog.globalNamed "stencil/markup.contentSteps"=some 5:=by kernel_rfl
theorem gRd:Tryz.prog.globalNamed "stencil/markup.readIn"=some 1:=by kernel_rfl
theorem gOt:Tryz.prog.globalNamed "stencil/markup.others"=some 2:=by kernel_rfl
theorem gEs:Tryz.prog.globalNamed "stencil/markup.escapes"=some 0:=by kernel_rfl
theorem gEl:Tryz.prog.globalNamed "stencil/markup.elements"=some 6:=by kernel_rfl
theorem gAt:Tryz.prog.globalNamed "stencil/markup.attributes"=some 10:=by kernel_rfl
theorem gLe:Tryz.prog.globalNamed "stencil/markup.longEscapes"=some 3:=by kernel_rfl
theorem tLe:(Tryz.prog.globals[3]?).map (·.type)=some 252:=by kernel_rfl
theorem pLe:qhx Tryz.prog 4 252=true:=by kernel_rfl
theorem dLe:qhi 4 (Rows.laid_stencil_markup_longEscapes (H:=Unit))=qo4:=rfl
theorem tMt:(Tryz.prog.globals[4]?).map (·.type)=some 255:=by kernel_rfl
theorem tCt:(Tryz.prog.globals[5]?).map (·.type)=some 256:=by kernel_rfl
theorem tRd:(Tryz.prog.globals[1]?).map (·.type)=some 216:=by kernel_rfl
theorem tOt:(Tryz.prog.globals[2]?).map (·.type)=some 216:=by kernel_rfl
theorem tEs:(Tryz.prog.globals[0]?).map (·.type)=some 213:=by kernel_rfl
theorem tEl:(Tryz.prog.globals[6]?).map (·.type)=some 293:=by kernel_rfl
theorem tAt:(Tryz.prog.globals[10]?).map (·.type)=some 327:=by kernel_rfl
theorem pMt:qhx Tryz.prog 4 255=true:=by kernel_rfl
theorem pCt:qhx Tryz.prog 4 256=true:=by kernel_rfl
theorem pRd:qhx Tryz.prog 4 216=true:=by kernel_rfl
theorem pEs:qhx Tryz.prog 4 213=true:=by kernel_rfl
theorem pEl:qhx Tryz.prog 4 293=true:=by kernel_rfl
theorem pAt:qhx Tryz.prog 4 327=true:=by kernel_rfl
theorem dMt:qhi 4 (Rows.laid_stencil_markup_markupSteps (H:=Unit))=qiy Pl.qbs:=rfl
theorem dCt:qhi 4 (Rows.laid_stencil_markup_contentSteps (H:=Unit))=qiy Pl.qbf:=rfl
theorem dRd:qhi 4 (Rows.laid_stencil_markup_readIn (H:=Unit))=qhz Pl.qed:=rfl
theorem dOt:qhi 4 (Rows.laid_stencil_markup_others (H:=Unit))=qhz Pl.qes:=rfl
theorem dEs:qhi 4 (Rows.laid_stencil_markup_escapes (H:=Unit))=qls Pl.qa3:=rfl
theorem dEl:qhi 4 (Rows.laid_stencil_markup_elements (H:=Unit))=qpf:=rfl
theorem dAt:qhi 4 (Rows.laid_stencil_markup_attributes (H:=Unit))=qpr:=rfl
theorem q51{W:World}(h:laidMetH Tryz.prog Rows.endedRow.laid W):PTabs W:=by
 obtain⟨ps,hv,_⟩:=(show laidMet Tryz.prog Rows.endedRow.laid W from h);refine⟨fun j v hj=>?_,fun j v hj=>?_,fun j v hj=>?_,fun j v hj=>?_,fun j v hj=>?_,fun j v hj=>?_,fun j v hj=>?_,fun j v hj=>?_⟩
 ·exact qcu hv 1 _ _ rfl _ _ 4 gMt tMt pMt j v (by rw[dMt];exact hj)
 ·exact qcu hv 2 _ _ rfl _ _ 4 gCt tCt pCt j v (by rw[dCt];exact hj)
 ·exact qcu hv 3 _ _ rfl _ _ 4 gRd tRd pRd j v (by rw[dRd];exact hj)
 ·exact qcu hv 4 _ _ rfl _ _ 4 gOt tOt pRd j v (by rw[dOt];exact hj)
 ·exact qcu hv 5 _ _ rfl _ _ 4 gEs tEs pEs j v (by rw[dEs];exact hj)
 ·exact qcu hv 7 _ _ rfl _ _ 4 gEl tEl pEl j v (by rw[dEl];exact hj)
 ·exact qcu hv 8 _ _ rfl _ _ 4 gAt tAt pAt j v (by rw[dAt];exact hj)
 ·exact qcu hv 6 _ _ rfl _ _ 4 gLe tLe pLe j v (by rw[dLe];exact hj)
theorem q3t{W:World}(h:W.ShapedOpen Tryz.prog):qaz W:=
 cell_of_shapedOpen_int (zero:=#[.int .i64 0]) h (by decide +kernel) (by kernel_rfl) rfl (by kernel_rfl) (by kernel_rfl) Tryz.underlying3
end Go.Proofs.YtfkhljmiehdgmaaGreatDoor
namespace Go.Proofs.YtfkhljmiehdgmaaGreatDoor
open Go.ChangeShapes Go.WideShapes
theorem qrs{H:Type}{enc:TypeId×Value->H}{C:Checked}{os:Os}{f:FuncId}{fn:Func}{s:OpenSpec}{conds:List PathCond}{apart:Bool}{laid:List (String×DataW Unit)}(modest:Bool)(w0:World)(args:Array Value)(hb:w0.os=os)
  (Hb:(w0.forCall (fun _ _=>0) ⟨#[],args,[]⟩).Shaped C.prog)
  (Ha:Input.okWideB C.prog (w0.forCall (fun _ _=>0) ⟨#[],args,[]⟩) f ⟨#[],args,[]⟩=true)
  (ha:s.preRow enc C.prog fn conds apart laid (w0.forCall (fun _ _=>0) ⟨#[],args,[]⟩).memory args) :
  ∃(w:World) (tape:Tape) (i:Input),w.os=os/\(w.forCall tape i).Shaped C.prog/\i.vars=[]/\Input.okWide C.prog (w.forCall tape i) .any w.heap.size f i /\
   s.preRow enc C.prog fn conds apart laid (w.forCall tape i).memory i.args/\({ modest:=modest }:Assume).holds C.prog (lone (Frame.enter C.prog f i.args .normal) [] (w.forCall tape i)):=
 ⟨w0,fun _ _=>0,⟨#[],args,[]⟩,hb,Hb,(Input.okWide_of_okWideB (base:=0) Ha).1,(Input.okWide_of_okWideB Ha).2,ha,by
  simp only[Assume.holds];exact⟨by simp,by simp,fun _=>Modest.zero,by simp,by simp⟩⟩
end Go.Proofs.YtfkhljmiehdgmaaGreatDoor
namespace Go.Proofs.YtfkhljmiehdgmaaGreatDoor.fnCompiles
open Go.ChangeShapes Go.WideShapes Go.ChangeAt Go.RowKit Go.WideMaps Go.WideElems
open Go.ChangeMaps (setBlock shut_map_nil open_string shut_string keptBut_setBlock frozen?_setBlock heap_setBlock_same)
theorem q6m(os:Os):laidMet Tryz.prog Rows.compilesRow.laid ((World.laidAll Tryz.prog os Rows.compilesRow.laid).forCall (fun _ _=>0) ⟨#[],#[.string .empty,.slice none 0 0],[]⟩).memory:=
 laidMet_laidAll _ (by kernel_rfl) (by kernel_rfl)
theorem qnf(os:Os):((World.laidAll Tryz.prog os Rows.compilesRow.laid).forCall (fun _ _=>0) ⟨#[],#[.string .empty,.slice none 0 0],[]⟩).Shaped Tryz.prog:=World.shaped_of_ZipB (by kernel_rfl) (by kernel_rfl)
theorem za6(os:Os){H:Type}(enc:TypeId×Value->H):∃places,DataW.whole enc Tryz.prog ((World.laidAll Tryz.prog os Rows.compilesRow.laid).forCall (fun _ _=>0) ⟨#[],#[.string .empty,.slice none 0 0],[]⟩).memory Tryz.f3.params.toList Rows.compilesSpec.vars false #[Value.string .empty,Value.slice none 0 0].toList 8=some ([.lit (.string []),.nil],[],places):=
 ⟨[],by kernel_rfl⟩
end Go.Proofs.YtfkhljmiehdgmaaGreatDoor.fnCompiles
