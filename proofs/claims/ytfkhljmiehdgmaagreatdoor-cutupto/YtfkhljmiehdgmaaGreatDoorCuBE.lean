/-
  Steps of the proof.
-/
import Derived.Test.YtfkhljmiehdgmaaGreatDoorCuBA
set_option maxRecDepth 100000
set_option maxHeartbeats 40000000
namespace Go.Proofs.YtfkhljmiehdgmaaGreatDoor
open Go.RowKit Go.Proofs.Tryz Pl
theorem qbz{P:Program}{fn:Func}{R:Ending->World->Prop}{a:Act}{w:World}{u p:Tmp}{ty:TypeId}(h:fn.results=#[.cell p ty,.tmp u])(g:Nat)(d:TypeDesc)(hu:P.underlying ty=some d)(hd:aggD d=true)(hi:(P.info? ty).map (·.size)=some 6)
  (hp:a.tmps.getD p undef=zP g) (hs:qfu w g) (ha:a.defers=[]) (v0 v1 v2 v3 v4 v5:Value) (y:Value) (hy:a.tmps.getD u undef=y) (hR:R (.returned (.tuple #[.agg #[v0,v1,v2,v3,v4,v5],y])) (set6 w g v0 v1 v2 v3 v4 v5)):bodyPost P fn R .ret a (set6 w g v0 v1 v2 v3 v4 v5):=by
 subst hy;exact bodyPost_ret (qjd h a.tmps _ g _ d hp (qky hs v0 v1 v2 v3 v4 v5) hu hd hi) ha hR
theorem qwp(hl:∀(p:Sp) (m:Nat) (b:UInt8) (w:World),p.mode=m->m<=33->p.tag.length<=1000->p.attr.length<=1000->p.inside.length<=1000->p.run.length<=2000000000000000000->zC 88 #[qaz p,zJ b.toNat] w (zR (qaz (p.next b)) w))(p:Sp)(n:Nat)(s:zT)(w:World)(Ho:SpOk n p)(hn:n+s.size<=2000000000000000000) :
  zC 54 #[qaz p,.string s] w (zR (.tuple #[qaz (qei p s.data.toList),zI (wrongFrom p (-1) 0 s.data.toList)]) w):=by
 have Hl:Hid (ThRound w ((w.alloc (.cells (qan p) 94)).alloc (.cells #[zI 0,zS,zS,zS,zS,zI 0] 94)) p s 0):=by
  have a1:=qsn w p 94;have a2:=qp9 w _ (qan p) 94 rfl rfl;exact⟨qov a1 (by simp) _,a2.alloc _,qp9 _ _ _ _ (by simp) rfl,(zB _).alloc (by simp) _,by simp⟩
 have hg:Hid (∀wr,ThRound w wr p s s.size->SpAt wr w.heap.size (qei p s.data.toList)/\qfu wr (w.heap.size+1)/\zW w wr):=by
  intro wr h;refine⟨?_,h.res,h.below⟩;have:=h.at';rw[qeo s s.size (yg _)]at this;exact this
 unfold qaz;unfold qan at Hl |-;go_enter func54,ntmps54
 go_wp2_with fail
 go_loopw [6,7] (fun g i wr=>∃k:Nat,k<=s.size/\g=zI (wrongFrom p (-1) 0 (s.data.toList.take k))/\i=zI k/\Hid (ThRound w wr p s k)) (fun _ i _=>s.size - (intOf i).toNat)
 case atStart=>exact⟨0,yH _,rfl,rfl,Hl⟩
 case round=>
  obtain⟨k,hk,rfl,rfl,HR⟩:=hrel;clear Hl;by_cases hp:k<s.size
  ·clear hg
   have Ha:=spFromOk (s.data.toList.take k) _ n Ho;have Hg:(s.data.toList.take k).length=k:=q2m s k hk;rw[Hg]at Ha;obtain⟨m,hm,Hp⟩:=Ha.mode;have hS:=fun w=>qrw (qei p (s.data.toList.take k)) w (yh Ha.tag (by omega)) (yh Ha.attr (by omega)) (yh Ha.inside (by omega)) (yh Ha.run (by omega));have hN:=fun w=>hl (qei p (s.data.toList.take k)) m s[k] w hm Hp (yh Ha.tag (by omega)) (yh Ha.attr (by omega)) (yh Ha.inside (by omega)) (yh Ha.run (by omega));have Hb:=HR.out.at';have Hm:qei p (s.data.toList.take (k+1))=(qei p (s.data.toList.take k)).next s[k]:=by rw[qdn s k hp,spFromSnoc]
   have Hf:wrongFrom p (-1) 0 (s.data.toList.take (k+1))=if wrongFrom p (-1) 0 (s.data.toList.take k)<0/\s[k]=58/\(qei p (s.data.toList.take k)).view.link=4 then(k:Int)else wrongFrom p (-1) 0 (s.data.toList.take k):=by
    rw[qdn s k hp,wrongFrom_snoc,Hg,xg]
   have Hi:=fun(w2:World) (hb:ThRound w w2 p s k)=>hb.set _ Hm;generalize (qei p (s.data.toList.take k)).next s[k]=Y at hN Hm Hi
   generalize (qei p (s.data.toList.take k)).view=V at hS Hf;generalize qei p (s.data.toList.take k)=S at hN hS Hb Ha hm;generalize wrongFrom p (-1) 0 (s.data.toList.take k)=g0 at Hf |-;unfold qaz qan at hS hN;have HN:=zH hN;have HS:=zH hS;clear hN hS Ha hm Hp Hg Hm hl;have hj:=HR.out;by_cases hc:g0<0/\s[k]=58
   ·have c1:=hc.1
    have c2:((s[k].toNat:Int)==58)=true:=by rw[hc.2];rfl
    obtain⟨vm,ve,va,vd,vc,vp,vl,vn,vr⟩:=V;unfold qwb qfa at HS;simp only at HS Hf;have Hk:Hid (wrongFrom p (-1) 0 (s.data.toList.take (k+1))=if vl=4 then(k:Int)else g0):=by
     show _=_;rw[Hf];by_cases h4:vl=4
     ·rw[if_pos ⟨hc.1,hc.2,h4⟩,if_pos h4]
     ·rw[if_neg (fun q=>h4 q.2.2),if_neg h4]
    clear Hf hc;have q0:=Hb.mode;have q1:=Hb.tag;have q2:=Hb.attr;have q3:=Hb.inside;have q4:=Hb.run;have q5:=Hb.far;go_wp2_with fail
    refine(HS.out _).mono ?_;rintro e w1 ⟨rfl,Hn⟩;have hq:=hj.spot Hn;have Hj:=fun o=>hq.spot ((xM _ w1).alloc (yg _) o);have ho:=hq.slot.lt;clear q0 q1 q2 q3 q4 q5;have Hc:=fun o=>qov (Hb.kept Hn hj.slot.lt) ho o;have q0:=fun o=>(Hc o).mode;have q1:=fun o=>(Hc o).tag;have q2:=fun o=>(Hc o).attr;have q3:=fun o=>(Hc o).inside;have q4:=fun o=>(Hc o).run;have q5:=fun o=>(Hc o).far;clear Hb Hc Hn HS hj;by_cases h4:vl=4
    ·have c4:(vl==4)=true:=yF.2 h4
     have hi:Hid (wrongFrom p (-1) 0 (s.data.toList.take (k+1))=(k:Int)):=by show _=_;rw[Hk.out,if_pos h4]
     clear Hk h4;go_wp2_with fail
     first | go_region_with (first
             | (go_at_call 88;refine(HN.out _).mono ?_;rintro e w2 ⟨rfl,He⟩
                have ha:=((Hj _).drew).spot He;have he:=zH (Hi w2 ha);unfold set6 at he;obtain⟨v0,p0⟩:=ha.slot.cell 0 (by omega);obtain⟨v1,p1⟩:=ha.slot.cell 1 (by omega);obtain⟨v2,p2⟩:=ha.slot.cell 2 (by omega);obtain⟨v3,p3⟩:=ha.slot.cell 3 (by omega);obtain⟨v4,p4⟩:=ha.slot.cell 4 (by omega);obtain⟨v5,p5⟩:=ha.slot.cell 5 (by omega);have f0:=ha.slot.thaw;clear ha He)) | fail
     all_goals
      clear q0 q1 q2 q3 q4 q5 p0 p1 p2 p3 p4 p5 f0;generalize (((((w2.setCell _ _).setCell _ _).setCell _ _).setCell _ _).setCell _ _).setCell _ _=W at he |-;go_wp2
      go_roundw
      case rel=>exact⟨k+1,by omega,by rw[hi.out],by go_num,he⟩
      case measure=>simp[intOf];omega
    ·have c4:(vl==4)=false:=yf.2 h4
     have hi:Hid (wrongFrom p (-1) 0 (s.data.toList.take (k+1))=g0):=by show _=_;rw[Hk.out,if_neg h4]
     clear Hk h4;go_wp2_with fail
     first | go_region_with (first
             | (go_at_call 88;refine(HN.out _).mono ?_;rintro e w2 ⟨rfl,He⟩
                have ha:=((Hj _).drew).spot He;have he:=zH (Hi w2 ha);unfold set6 at he;obtain⟨v0,p0⟩:=ha.slot.cell 0 (by omega);obtain⟨v1,p1⟩:=ha.slot.cell 1 (by omega);obtain⟨v2,p2⟩:=ha.slot.cell 2 (by omega);obtain⟨v3,p3⟩:=ha.slot.cell 3 (by omega);obtain⟨v4,p4⟩:=ha.slot.cell 4 (by omega);obtain⟨v5,p5⟩:=ha.slot.cell 5 (by omega);have f0:=ha.slot.thaw;clear ha He)) | fail
     all_goals
      clear q0 q1 q2 q3 q4 q5 p0 p1 p2 p3 p4 p5 f0;generalize (((((w2.setCell _ _).setCell _ _).setCell _ _).setCell _ _).setCell _ _).setCell _ _=W at he |-;go_wp2
      go_roundw
      case rel=>exact⟨k+1,by omega,by rw[hi.out],by go_num,he⟩
      case measure=>simp[intOf];omega
   ·rw[if_neg (fun q=>hc ⟨q.1,q.2.1⟩)]at Hf
    have hi:=zH Hf;clear Hf HS;have q0:=Hb.mode;have q1:=Hb.tag;have q2:=Hb.attr;have q3:=Hb.inside;have q4:=Hb.run;have q5:=Hb.far;clear Hb;by_cases c1:g0<0
    ·have c2:((s[k].toNat:Int)==58)=false:=(qil s[k] 58 (by omega)).trans (yf.2 fun q=>hc ⟨c1,q⟩)
     clear hc;go_wp2_with fail
     first | go_region_with (first
             | (go_at_call 88;refine(HN.out _).mono ?_;rintro e w2 ⟨rfl,He⟩
                have ha:=(hj.drew).spot He;have he:=zH (Hi w2 ha);unfold set6 at he;obtain⟨v0,p0⟩:=ha.slot.cell 0 (by omega);obtain⟨v1,p1⟩:=ha.slot.cell 1 (by omega);obtain⟨v2,p2⟩:=ha.slot.cell 2 (by omega);obtain⟨v3,p3⟩:=ha.slot.cell 3 (by omega);obtain⟨v4,p4⟩:=ha.slot.cell 4 (by omega);obtain⟨v5,p5⟩:=ha.slot.cell 5 (by omega);have f0:=ha.slot.thaw;clear ha He)) | fail
     all_goals
      clear q0 q1 q2 q3 q4 q5 p0 p1 p2 p3 p4 p5 f0;generalize (((((w2.setCell _ _).setCell _ _).setCell _ _).setCell _ _).setCell _ _).setCell _ _=W at he |-;go_wp2
      go_roundw
      case rel=>exact⟨k+1,by omega,by rw[hi.out],by go_num,he⟩
      case measure=>simp[intOf];omega
    ·have c1:0<=g0:=by omega
     clear hc;go_wp2_with fail
     first | go_region_with (first
             | (go_at_call 88;refine(HN.out _).mono ?_;rintro e w2 ⟨rfl,He⟩
                have ha:=(hj.drew).spot He;have he:=zH (Hi w2 ha);unfold set6 at he;obtain⟨v0,p0⟩:=ha.slot.cell 0 (by omega);obtain⟨v1,p1⟩:=ha.slot.cell 1 (by omega);obtain⟨v2,p2⟩:=ha.slot.cell 2 (by omega);obtain⟨v3,p3⟩:=ha.slot.cell 3 (by omega);obtain⟨v4,p4⟩:=ha.slot.cell 4 (by omega);obtain⟨v5,p5⟩:=ha.slot.cell 5 (by omega);have f0:=ha.slot.thaw;clear ha He)) | fail
     all_goals
      clear q0 q1 q2 q3 q4 q5 p0 p1 p2 p3 p4 p5 f0;generalize (((((w2.setCell _ _).setCell _ _).setCell _ _).setCell _ _).setCell _ _).setCell _ _=W at he |-;go_wp2
      go_roundw
      case rel=>exact⟨k+1,by omega,by rw[hi.out],by go_num,he⟩
      case measure=>simp[intOf];omega
  ·have hr:k=s.size:=by omega
   subst hr;obtain⟨Hb,hf,Hq⟩:=hg.out _ HR.out;have HG:Hid (wrongFrom p (-1) 0 (s.data.toList.take s.size)=wrongFrom p (-1) 0 s.data.toList):=by show _=_;rw[qeo s s.size (yg _)]
   have HB:=zH Hq;have Hr:=zH hf;clear HR hg Hq hl Ho;generalize wrongFrom p (-1) 0 (s.data.toList.take s.size)=g0 at HG |-;have q0:=Hb.mode;have q1:=Hb.tag;have q2:=Hb.attr;have q3:=Hb.inside;have q4:=Hb.run;have q5:=Hb.far;obtain⟨v0,p0⟩:=hf.cell 0 (by omega);obtain⟨v1,p1⟩:=hf.cell 1 (by omega);obtain⟨v2,p2⟩:=hf.cell 2 (by omega);obtain⟨v3,p3⟩:=hf.cell 3 (by omega);obtain⟨v4,p4⟩:=hf.cell 4 (by omega);obtain⟨v5,p5⟩:=hf.cell 5 (by omega);have f0:=hf.thaw;clear Hb hf;go_wp2
   refine qbz results54 (w.heap.size+1) _ underlying94 rfl (by kernel_rfl) rfl Hr.out rfl _ _ _ _ _ _ _ rfl ?_;refine⟨?_,qb9 HB.out (by simp) _ _ _ _ _ _⟩;rw[<-HG.out];rfl
end Go.Proofs.YtfkhljmiehdgmaaGreatDoor
