/-
  Steps of the proof.
-/
import Derived.Test.YtfkhljmiehdgmaaGreatDoorCmBC
set_option maxRecDepth 100000
set_option maxHeartbeats 40000000
namespace Go.Proofs.YtfkhljmiehdgmaaGreatDoor
open Go.RowKit
theorem qbm{P:Program}{fn:Func}{R:Ending->World->Prop}{a:Act}{w:World}{u p:Tmp}{ty:TypeId}(h:fn.results=#[.cell p ty,.tmp u])(g:Nat)(d:TypeDesc)(hu:P.underlying ty=some d)(hd:aggD d=true)(hi:(P.info? ty).map (·.size)=some 6)
  (hp:a.tmps.getD p undef=.pointer (some ⟨g,0,none⟩)) (hs:qfn w g) (ha:a.defers=[]) (v0 v1 v2 v3 v4 v5:Value) (y:Value) (hy:a.tmps.getD u undef=y) (hR:R (.returned (.tuple #[.agg #[v0,v1,v2,v3,v4,v5],y])) (set6 w g v0 v1 v2 v3 v4 v5)):bodyPost P fn R .ret a (set6 w g v0 v1 v2 v3 v4 v5):=by
 subst hy;exact bodyPost_ret (qiv h a.tmps _ g _ d hp (qj0 hs v0 v1 v2 v3 v4 v5) hu hd hi) ha hR
theorem qt0(hl:∀(p:Pl.Sp) (m:Nat) (b:UInt8) (w:World),p.mode=m->m<=33->p.tag.length<=1000->p.attr.length<=1000->p.inside.length<=1000->p.run.length<=2000000000000000000->Calls Tryz.prog 88 #[qau p,.int .u8 b.toNat] w fun e w'=>e=.returned (qau (p.next b))/\Below w.heap.size w w')(p:Pl.Sp)(n:Nat)(s:ByteArray)(w:World)(Ho:Pl.SpOk n p)(hn:n+s.size<=2000000000000000000) :
  Calls Tryz.prog 54 #[qau p,.string s] w fun e w'=>e=.returned (.tuple #[qau (Pl.qda p s.data.toList),.int .i64 (Pl.wrongFrom p (-1) 0 s.data.toList)])/\Below w.heap.size w w':=by
 have Hl:Hid (ThRound w ((w.alloc (.cells (qag p) 94)).alloc (.cells #[.int .i64 0,.string ⟨#[]⟩,.string ⟨#[]⟩,.string ⟨#[]⟩,.string ⟨#[]⟩,.int .i64 0] 94)) p s 0):=by
  have a1:=qql w p 94;have a2:=qom w _ (qag p) 94 rfl rfl;exact⟨qnd a1 (by simp) _,a2.alloc _,qom _ _ _ _ (by simp) rfl,(ba _).alloc (by simp) _,by simp⟩
 have hg:Hid (∀wr,ThRound w wr p s s.size->SpAt wr w.heap.size (Pl.qda p s.data.toList)/\qfn wr (w.heap.size+1)/\Below w.heap.size w wr):=by
  intro wr h;refine⟨?_,h.res,h.below⟩;have:=h.at';rw[Pl.qeu s s.size (Nat.le_refl _)]at this;exact this
 unfold qau;unfold qag at Hl |-;go_enter Tryz.func54,Tryz.ntmps54
 go_wp2_with fail
 go_loopw [6,7] (fun g i wr=>∃k:Nat,k<=s.size/\g=.int .i64 (Pl.wrongFrom p (-1) 0 (s.data.toList.take k))/\i=.int .i64 k/\Hid (ThRound w wr p s k)) (fun _ i _=>s.size - (intOf i).toNat)
 case atStart=>exact⟨0,Nat.zero_le _,rfl,rfl,Hl⟩
 case round=>
  obtain⟨k,hk,rfl,rfl,HR⟩:=hrel;clear Hl;by_cases hp:k<s.size
  ·clear hg
   have Ha:=Pl.spFromOk (s.data.toList.take k) _ n Ho;have Hg:(s.data.toList.take k).length=k:=Pl.qyt s k hk;rw[Hg]at Ha;obtain⟨m,hm,Hp⟩:=Ha.mode;have hS:=fun w=>qit (Pl.qda p (s.data.toList.take k)) w (Nat.le_trans Ha.tag (by omega)) (Nat.le_trans Ha.attr (by omega)) (Nat.le_trans Ha.inside (by omega)) (Nat.le_trans Ha.run (by omega));have hN:=fun w=>hl (Pl.qda p (s.data.toList.take k)) m s[k] w hm Hp (Nat.le_trans Ha.tag (by omega)) (Nat.le_trans Ha.attr (by omega)) (Nat.le_trans Ha.inside (by omega)) (Nat.le_trans Ha.run (by omega));have Hb:=HR.out.at';have Hm:Pl.qda p (s.data.toList.take (k+1))=(Pl.qda p (s.data.toList.take k)).next s[k]:=by rw[Pl.qc9 s k hp,Pl.spFromSnoc]
   have Hf:Pl.wrongFrom p (-1) 0 (s.data.toList.take (k+1))=if Pl.wrongFrom p (-1) 0 (s.data.toList.take k)<0/\s[k]=58/\(Pl.qda p (s.data.toList.take k)).view.link=4 then(k:Int)else Pl.wrongFrom p (-1) 0 (s.data.toList.take k):=by
    rw[Pl.qc9 s k hp,Pl.wrongFrom_snoc,Hg,Nat.zero_add]
   have Hi:=fun(w2:World) (hb:ThRound w w2 p s k)=>hb.set _ Hm;generalize (Pl.qda p (s.data.toList.take k)).next s[k]=Y at hN Hm Hi
   generalize (Pl.qda p (s.data.toList.take k)).view=V at hS Hf;generalize Pl.qda p (s.data.toList.take k)=S at hN hS Hb Ha hm;generalize Pl.wrongFrom p (-1) 0 (s.data.toList.take k)=g0 at Hf |-;unfold qau qag at hS hN;have HN:=hd hN;have HS:=hd hS;clear hN hS Ha hm Hp Hg Hm hl;have hj:=HR.out;by_cases hc:g0<0/\s[k]=58
   ·have c1:=hc.1
    have c2:((s[k].toNat:Int)==58)=true:=by rw[hc.2];rfl
    obtain⟨vm,ve,va,vd,vc,vp,vl,vn,vr⟩:=V;unfold qep qcv at HS;simp only at HS Hf;have Hk:Hid (Pl.wrongFrom p (-1) 0 (s.data.toList.take (k+1))=if vl=4 then(k:Int)else g0):=by
     show _=_;rw[Hf];by_cases h4:vl=4
     ·rw[if_pos ⟨hc.1,hc.2,h4⟩,if_pos h4]
     ·rw[if_neg (fun q=>h4 q.2.2),if_neg h4]
    clear Hf hc;have q0:=Hb.mode;have q1:=Hb.tag;have q2:=Hb.attr;have q3:=Hb.inside;have q4:=Hb.run;have q5:=Hb.far;go_wp2_with fail
    refine(HS.out _).mono ?_;rintro e w1 ⟨rfl,Hn⟩;have hq:=hj.spot Hn;have Hj:=fun o=>hq.spot ((Below.refl _ w1).alloc (Nat.le_refl _) o);have ho:=hq.slot.lt;clear q0 q1 q2 q3 q4 q5;have Hc:=fun o=>qnd (Hb.kept Hn hj.slot.lt) ho o;have q0:=fun o=>(Hc o).mode;have q1:=fun o=>(Hc o).tag;have q2:=fun o=>(Hc o).attr;have q3:=fun o=>(Hc o).inside;have q4:=fun o=>(Hc o).run;have q5:=fun o=>(Hc o).far;clear Hb Hc Hn HS hj;by_cases h4:vl=4
    ·have c4:(vl==4)=true:=beq_iff_eq.2 h4
     have hi:Hid (Pl.wrongFrom p (-1) 0 (s.data.toList.take (k+1))=(k:Int)):=by show _=_;rw[Hk.out,if_pos h4]
     clear Hk h4;go_wp2_with fail
     first | go_region_with (first
             | (go_at_call 88;refine(HN.out _).mono ?_;rintro e w2 ⟨rfl,hf⟩
                have ha:=((Hj _).drew).spot hf;have he:=hd (Hi w2 ha);unfold set6 at he;obtain⟨v0,p0⟩:=ha.slot.cell 0 (by omega);obtain⟨v1,p1⟩:=ha.slot.cell 1 (by omega);obtain⟨v2,p2⟩:=ha.slot.cell 2 (by omega);obtain⟨v3,p3⟩:=ha.slot.cell 3 (by omega);obtain⟨v4,p4⟩:=ha.slot.cell 4 (by omega);obtain⟨v5,p5⟩:=ha.slot.cell 5 (by omega);have f0:=ha.slot.thaw 0;have f1:=ha.slot.thaw 1;have f2:=ha.slot.thaw 2;have f3:=ha.slot.thaw 3;have f4:=ha.slot.thaw 4;have f5:=ha.slot.thaw 5;clear ha hf)) | fail
     all_goals
      clear q0 q1 q2 q3 q4 q5 p0 p1 p2 p3 p4 p5 f0 f1 f2 f3 f4 f5;generalize (((((w2.setCell _ _).setCell _ _).setCell _ _).setCell _ _).setCell _ _).setCell _ _=W at he |-;go_wp2
      go_roundw
      case rel=>exact⟨k+1,by omega,by rw[hi.out],by go_num,he⟩
      case measure=>simp[intOf];omega
    ·have c4:(vl==4)=false:=beq_eq_false_iff_ne.2 h4
     have hi:Hid (Pl.wrongFrom p (-1) 0 (s.data.toList.take (k+1))=g0):=by show _=_;rw[Hk.out,if_neg h4]
     clear Hk h4;go_wp2_with fail
     first | go_region_with (first
             | (go_at_call 88;refine(HN.out _).mono ?_;rintro e w2 ⟨rfl,hf⟩
                have ha:=((Hj _).drew).spot hf;have he:=hd (Hi w2 ha);unfold set6 at he;obtain⟨v0,p0⟩:=ha.slot.cell 0 (by omega);obtain⟨v1,p1⟩:=ha.slot.cell 1 (by omega);obtain⟨v2,p2⟩:=ha.slot.cell 2 (by omega);obtain⟨v3,p3⟩:=ha.slot.cell 3 (by omega);obtain⟨v4,p4⟩:=ha.slot.cell 4 (by omega);obtain⟨v5,p5⟩:=ha.slot.cell 5 (by omega);have f0:=ha.slot.thaw 0;have f1:=ha.slot.thaw 1;have f2:=ha.slot.thaw 2;have f3:=ha.slot.thaw 3;have f4:=ha.slot.thaw 4;have f5:=ha.slot.thaw 5;clear ha hf)) | fail
     all_goals
      clear q0 q1 q2 q3 q4 q5 p0 p1 p2 p3 p4 p5 f0 f1 f2 f3 f4 f5;generalize (((((w2.setCell _ _).setCell _ _).setCell _ _).setCell _ _).setCell _ _).setCell _ _=W at he |-;go_wp2
      go_roundw
      case rel=>exact⟨k+1,by omega,by rw[hi.out],by go_num,he⟩
      case measure=>simp[intOf];omega
   ·rw[if_neg (fun q=>hc ⟨q.1,q.2.1⟩)]at Hf
    have hi:=hd Hf;clear Hf HS;have q0:=Hb.mode;have q1:=Hb.tag;have q2:=Hb.attr;have q3:=Hb.inside;have q4:=Hb.run;have q5:=Hb.far;clear Hb;by_cases c1:g0<0
    ·have c2:((s[k].toNat:Int)==58)=false:=(Pl.qh5 s[k] 58 (by omega)).trans (beq_eq_false_iff_ne.2 fun q=>hc ⟨c1,q⟩)
     clear hc;go_wp2_with fail
     first | go_region_with (first
             | (go_at_call 88;refine(HN.out _).mono ?_;rintro e w2 ⟨rfl,hf⟩
                have ha:=(hj.drew).spot hf;have he:=hd (Hi w2 ha);unfold set6 at he;obtain⟨v0,p0⟩:=ha.slot.cell 0 (by omega);obtain⟨v1,p1⟩:=ha.slot.cell 1 (by omega);obtain⟨v2,p2⟩:=ha.slot.cell 2 (by omega);obtain⟨v3,p3⟩:=ha.slot.cell 3 (by omega);obtain⟨v4,p4⟩:=ha.slot.cell 4 (by omega);obtain⟨v5,p5⟩:=ha.slot.cell 5 (by omega);have f0:=ha.slot.thaw 0;have f1:=ha.slot.thaw 1;have f2:=ha.slot.thaw 2;have f3:=ha.slot.thaw 3;have f4:=ha.slot.thaw 4;have f5:=ha.slot.thaw 5;clear ha hf)) | fail
     all_goals
      clear q0 q1 q2 q3 q4 q5 p0 p1 p2 p3 p4 p5 f0 f1 f2 f3 f4 f5;generalize (((((w2.setCell _ _).setCell _ _).setCell _ _).setCell _ _).setCell _ _).setCell _ _=W at he |-;go_wp2
      go_roundw
      case rel=>exact⟨k+1,by omega,by rw[hi.out],by go_num,he⟩
      case measure=>simp[intOf];omega
    ·have c1:0<=g0:=by omega
     clear hc;go_wp2_with fail
     first | go_region_with (first
             | (go_at_call 88;refine(HN.out _).mono ?_;rintro e w2 ⟨rfl,hf⟩
                have ha:=(hj.drew).spot hf;have he:=hd (Hi w2 ha);unfold set6 at he;obtain⟨v0,p0⟩:=ha.slot.cell 0 (by omega);obtain⟨v1,p1⟩:=ha.slot.cell 1 (by omega);obtain⟨v2,p2⟩:=ha.slot.cell 2 (by omega);obtain⟨v3,p3⟩:=ha.slot.cell 3 (by omega);obtain⟨v4,p4⟩:=ha.slot.cell 4 (by omega);obtain⟨v5,p5⟩:=ha.slot.cell 5 (by omega);have f0:=ha.slot.thaw 0;have f1:=ha.slot.thaw 1;have f2:=ha.slot.thaw 2;have f3:=ha.slot.thaw 3;have f4:=ha.slot.thaw 4;have f5:=ha.slot.thaw 5;clear ha hf)) | fail
     all_goals
      clear q0 q1 q2 q3 q4 q5 p0 p1 p2 p3 p4 p5 f0 f1 f2 f3 f4 f5;generalize (((((w2.setCell _ _).setCell _ _).setCell _ _).setCell _ _).setCell _ _).setCell _ _=W at he |-;go_wp2
      go_roundw
      case rel=>exact⟨k+1,by omega,by rw[hi.out],by go_num,he⟩
      case measure=>simp[intOf];omega
  ·have hr:k=s.size:=by omega
   subst hr;obtain⟨Hb,He,Hq⟩:=hg.out _ HR.out;have HG:Hid (Pl.wrongFrom p (-1) 0 (s.data.toList.take s.size)=Pl.wrongFrom p (-1) 0 s.data.toList):=by show _=_;rw[Pl.qeu s s.size (Nat.le_refl _)]
   have HB:=hd Hq;have Hr:=hd He;clear HR hg Hq hl Ho;generalize Pl.wrongFrom p (-1) 0 (s.data.toList.take s.size)=g0 at HG |-;have q0:=Hb.mode;have q1:=Hb.tag;have q2:=Hb.attr;have q3:=Hb.inside;have q4:=Hb.run;have q5:=Hb.far;obtain⟨v0,p0⟩:=He.cell 0 (by omega);obtain⟨v1,p1⟩:=He.cell 1 (by omega);obtain⟨v2,p2⟩:=He.cell 2 (by omega);obtain⟨v3,p3⟩:=He.cell 3 (by omega);obtain⟨v4,p4⟩:=He.cell 4 (by omega);obtain⟨v5,p5⟩:=He.cell 5 (by omega);have f0:=He.thaw 0;have f1:=He.thaw 1;have f2:=He.thaw 2;have f3:=He.thaw 3;have f4:=He.thaw 4;have f5:=He.thaw 5;clear Hb He;go_wp2
   refine qbm Tryz.results54 (w.heap.size+1) _ Tryz.underlying94 rfl (by kernel_rfl) rfl Hr.out rfl _ _ _ _ _ _ _ rfl ?_;refine⟨?_,qbx HB.out (by simp) _ _ _ _ _ _⟩;rw[<-HG.out];rfl
end Go.Proofs.YtfkhljmiehdgmaaGreatDoor
