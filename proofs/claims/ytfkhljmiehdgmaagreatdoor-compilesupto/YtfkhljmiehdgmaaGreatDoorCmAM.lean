/-
  Steps of the proof.
-/
import Derived.Test.YtfkhljmiehdgmaaGreatDoorCmAL
set_option maxRecDepth 100000
set_option maxHeartbeats 40000000
namespace Go.Proofs.YtfkhljmiehdgmaaGreatDoor
open Go.RowKit
theorem qbm{P:Program}{fn:Func}{R:Ending→World→Prop}{a:Act}{w:World}{u p:Tmp}{ty:TypeId}(h:fn.results=#[.cell p ty,.tmp u])(g:Nat)(d:TypeDesc)(hu:P.underlying ty=some d)(hd:aggD d=true)(hi:(P.info? ty).map (·.size)=some 6)
  (hp:a.tmps.getD p undef=.pointer (some ⟨g,0,none⟩)) (hs:qfl w g) (ha:a.defers=[]) (v0 v1 v2 v3 v4 v5:Value) (y:Value) (hy:a.tmps.getD u undef=y) (hR:R (.returned (.tuple #[.agg #[v0,v1,v2,v3,v4,v5],y])) (set6 w g v0 v1 v2 v3 v4 v5)):bodyPost P fn R .ret a (set6 w g v0 v1 v2 v3 v4 v5):=by
 subst hy;exact bodyPost_ret (qis h a.tmps _ g _ d hp (qjx hs v0 v1 v2 v3 v4 v5) hu hd hi) ha hR
theorem qtp(hl:∀(p:Pl.Sp) (m:Nat) (b:UInt8) (w:World),p.mode=m→m≤33→p.tag.length≤1000→p.attr.length≤1000→p.inside.length≤1000→p.run.length≤2000000000000000000→Calls Tryz.prog 88 #[qat p,.int .u8 b.toNat] w fun e w'=>e=.returned (qat (p.next b))∧Below w.heap.size w w')(p:Pl.Sp)(n:Nat)(s:ByteArray)(w:World)(Ho:Pl.SpOk n p)(hn:n+s.size≤2000000000000000000) :
  Calls Tryz.prog 54 #[qat p,.string s] w fun e w'=>e=.returned (.tuple #[qat (Pl.qc7 p s.data.toList),.int .i64 (Pl.wrongFrom p (-1) 0 s.data.toList)])∧Below w.heap.size w w':=by
 have Hl:Hid (ThRound w ((w.alloc (.cells (qag p) 94)).alloc (.cells #[.int .i64 0,.string ⟨#[]⟩,.string ⟨#[]⟩,.string ⟨#[]⟩,.string ⟨#[]⟩,.int .i64 0] 94)) p s 0):=by
  have a1:=qqd w p 94;have a2:=qof w _ (qag p) 94 rfl rfl;exact⟨qm7 a1 (by simp) _,a2.alloc _,qof _ _ _ _ (by simp) rfl,(ba _).alloc (by simp) _,by simp⟩
 have hg:Hid (∀wr,ThRound w wr p s s.size→SpAt wr w.heap.size (Pl.qc7 p s.data.toList)∧qfl wr (w.heap.size+1)∧Below w.heap.size w wr):=by
  intro wr h;refine⟨?_,h.res,h.below⟩;have:=h.at';rw[Pl.qer s s.size (Nat.le_refl _)]at this;exact this
 unfold qat;unfold qag at Hl ⊢;go_enter Tryz.func54,Tryz.ntmps54
 go_wp2_with fail
 go_loopw [6,7] (fun g i wr=>∃k:Nat,k≤s.size∧g=.int .i64 (Pl.wrongFrom p (-1) 0 (s.data.toList.take k))∧i=.int .i64 k∧Hid (ThRound w wr p s k)) (fun _ i _=>s.size - (intOf i).toNat)
 case atStart=>exact⟨0,Nat.zero_le _,rfl,rfl,Hl⟩
 case round=>
  obtain⟨k,hk,rfl,rfl,HR⟩:=hrel;clear Hl;by_cases hp:k<s.size
  ·clear hg
   have Ha:=Pl.spFromOk (s.data.toList.take k) _ n Ho;have Hg:(s.data.toList.take k).length=k:=Pl.q5c s k hk;rw[Hg]at Ha;obtain⟨m,hm,Hp⟩:=Ha.mode;have hS:=fun w=>qiq (Pl.qc7 p (s.data.toList.take k)) w (Nat.le_trans Ha.tag (by omega)) (Nat.le_trans Ha.attr (by omega)) (Nat.le_trans Ha.inside (by omega)) (Nat.le_trans Ha.run (by omega));have hN:=fun w=>hl (Pl.qc7 p (s.data.toList.take k)) m s[k] w hm Hp (Nat.le_trans Ha.tag (by omega)) (Nat.le_trans Ha.attr (by omega)) (Nat.le_trans Ha.inside (by omega)) (Nat.le_trans Ha.run (by omega));have Hb:=HR.out.at';have Hm:Pl.qc7 p (s.data.toList.take (k+1))=(Pl.qc7 p (s.data.toList.take k)).next s[k]:=by rw[Pl.qd1 s k hp,Pl.spFromSnoc]
   have Hf:Pl.wrongFrom p (-1) 0 (s.data.toList.take (k+1))=if Pl.wrongFrom p (-1) 0 (s.data.toList.take k)<0∧s[k]=58∧(Pl.qc7 p (s.data.toList.take k)).view.link=4 then(k:Int) else Pl.wrongFrom p (-1) 0 (s.data.toList.take k):=by
    rw[Pl.qd1 s k hp,Pl.wrongFrom_snoc,Hg,Nat.zero_add]
   have Hi:=fun(w2:World) (hb:ThRound w w2 p s k)=>hb.set _ Hm;generalize (Pl.qc7 p (s.data.toList.take k)).next s[k]=Y at hN Hm Hi
   generalize (Pl.qc7 p (s.data.toList.take k)).view=V at hS Hf;generalize Pl.qc7 p (s.data.toList.take k)=S at hN hS Hb Ha hm;generalize Pl.wrongFrom p (-1) 0 (s.data.toList.take k)=g0 at Hf ⊢;unfold qat qag at hS hN;have HN:=hd hN;have HS:=hd hS;clear hN hS Ha hm Hp Hg Hm hl;have hj:=HR.out;by_cases hc:g0<0∧s[k]=58
   ·have c1:=hc.1
    have c2:((s[k].toNat:Int)==58)=true:=by rw[hc.2];rfl
    obtain⟨vm,ve,va,vd,vc,vp,vl,vn,vr⟩:=V;unfold qel qcu at HS;simp only at HS Hf;have Hk:Hid (Pl.wrongFrom p (-1) 0 (s.data.toList.take (k+1))=if vl=4 then(k:Int) else g0):=by
     show _=_;rw[Hf];by_cases h4:vl=4
     ·rw[if_pos ⟨hc.1,hc.2,h4⟩,if_pos h4]
     ·rw[if_neg (fun q=>h4 q.2.2),if_neg h4]
    clear Hf hc;have q0:=Hb.mode;have q1:=Hb.tag;have q2:=Hb.attr;have q3:=Hb.inside;have q4:=Hb.run;have q5:=Hb.far;go_wp2_with fail
    refine(HS.out _).mono ?_;rintro e w1 ⟨rfl,Hn⟩;have hq:=hj.spot Hn;have Hj:=fun o=>hq.spot ((Below.refl _ w1).alloc (Nat.le_refl _) o);have ho:=hq.slot.lt;clear q0 q1 q2 q3 q4 q5;have Hc:=fun o=>qm7 (Hb.kept Hn hj.slot.lt) ho o;have q0:=fun o=>(Hc o).mode;have q1:=fun o=>(Hc o).tag;have q2:=fun o=>(Hc o).attr;have q3:=fun o=>(Hc o).inside;have q4:=fun o=>(Hc o).run;have q5:=fun o=>(Hc o).far;clear Hb Hc Hn HS hj;by_cases h4:vl=4
    ·have c4:(vl==4)=true:=beq_iff_eq.2 h4
     have hi:Hid (Pl.wrongFrom p (-1) 0 (s.data.toList.take (k+1))=(k:Int)):=by show _=_;rw[Hk.out,if_pos h4]
     clear Hk h4;go_wp2_with fail
     first | go_region_with (first
             | (go_at_call 88;refine(HN.out _).mono ?_;rintro e w2 ⟨rfl,hf⟩
                have ha:=((Hj _).drew).spot hf;have he:=hd (Hi w2 ha);unfold set6 at he;obtain⟨v0,p0⟩:=ha.slot.cell 0 (by omega);obtain⟨v1,p1⟩:=ha.slot.cell 1 (by omega);obtain⟨v2,p2⟩:=ha.slot.cell 2 (by omega);obtain⟨v3,p3⟩:=ha.slot.cell 3 (by omega);obtain⟨v4,p4⟩:=ha.slot.cell 4 (by omega);obtain⟨v5,p5⟩:=ha.slot.cell 5 (by omega);have f0:=ha.slot.thaw 0;have f1:=ha.slot.thaw 1;have f2:=ha.slot.thaw 2;have f3:=ha.slot.thaw 3;have f4:=ha.slot.thaw 4;have f5:=ha.slot.thaw 5;clear ha hf)) | fail
     all_goals
      clear q0 q1 q2 q3 q4 q5 p0 p1 p2 p3 p4 p5 f0 f1 f2 f3 f4 f5;generalize (((((w2.setCell _ _).setCell _ _).setCell _ _).setCell _ _).setCell _ _).setCell _ _=W at he ⊢;go_wp2
      go_roundw
      case rel=>exact⟨k+1,by omega,by rw[hi.out],by go_num,he⟩
      case measure=>simp[intOf];omega
    ·have c4:(vl==4)=false:=beq_eq_false_iff_ne.2 h4
     have hi:Hid (Pl.wrongFrom p (-1) 0 (s.data.toList.take (k+1))=g0):=by show _=_;rw[Hk.out,if_neg h4]
     clear Hk h4;go_wp2_with fail
     first | go_region_with (first
             | (go_at_call 88;refine(HN.out _).mono ?_;rintro e w2 ⟨rfl,hf⟩
                have ha:=((Hj _).drew).spot hf;have he:=hd (Hi w2 ha);unfold set6 at he;obtain⟨v0,p0⟩:=ha.slot.cell 0 (by omega);obtain⟨v1,p1⟩:=ha.slot.cell 1 (by omega);obtain⟨v2,p2⟩:=ha.slot.cell 2 (by omega);obtain⟨v3,p3⟩:=ha.slot.cell 3 (by omega);obtain⟨v4,p4⟩:=ha.slot.cell 4 (by omega);obtain⟨v5,p5⟩:=ha.slot.cell 5 (by omega);have f0:=ha.slot.thaw 0;have f1:=ha.slot.thaw 1;have f2:=ha.slot.thaw 2;have f3:=ha.slot.thaw 3;have f4:=ha.slot.thaw 4;have f5:=ha.slot.thaw 5;clear ha hf)) | fail
     all_goals
      clear q0 q1 q2 q3 q4 q5 p0 p1 p2 p3 p4 p5 f0 f1 f2 f3 f4 f5;generalize (((((w2.setCell _ _).setCell _ _).setCell _ _).setCell _ _).setCell _ _).setCell _ _=W at he ⊢;go_wp2
      go_roundw
      case rel=>exact⟨k+1,by omega,by rw[hi.out],by go_num,he⟩
      case measure=>simp[intOf];omega
   ·rw[if_neg (fun q=>hc ⟨q.1,q.2.1⟩)]at Hf
    have hi:=hd Hf;clear Hf HS;have q0:=Hb.mode;have q1:=Hb.tag;have q2:=Hb.attr;have q3:=Hb.inside;have q4:=Hb.run;have q5:=Hb.far;clear Hb;by_cases c1:g0<0
    ·have c2:((s[k].toNat:Int)==58)=false:=(Pl.qh3 s[k] 58 (by omega)).trans (beq_eq_false_iff_ne.2 fun q=>hc ⟨c1,q⟩)
     clear hc;go_wp2_with fail
     first | go_region_with (first
             | (go_at_call 88;refine(HN.out _).mono ?_;rintro e w2 ⟨rfl,hf⟩
                have ha:=(hj.drew).spot hf;have he:=hd (Hi w2 ha);unfold set6 at he;obtain⟨v0,p0⟩:=ha.slot.cell 0 (by omega);obtain⟨v1,p1⟩:=ha.slot.cell 1 (by omega);obtain⟨v2,p2⟩:=ha.slot.cell 2 (by omega);obtain⟨v3,p3⟩:=ha.slot.cell 3 (by omega);obtain⟨v4,p4⟩:=ha.slot.cell 4 (by omega);obtain⟨v5,p5⟩:=ha.slot.cell 5 (by omega);have f0:=ha.slot.thaw 0;have f1:=ha.slot.thaw 1;have f2:=ha.slot.thaw 2;have f3:=ha.slot.thaw 3;have f4:=ha.slot.thaw 4;have f5:=ha.slot.thaw 5;clear ha hf)) | fail
     all_goals
      clear q0 q1 q2 q3 q4 q5 p0 p1 p2 p3 p4 p5 f0 f1 f2 f3 f4 f5;generalize (((((w2.setCell _ _).setCell _ _).setCell _ _).setCell _ _).setCell _ _).setCell _ _=W at he ⊢;go_wp2
      go_roundw
      case rel=>exact⟨k+1,by omega,by rw[hi.out],by go_num,he⟩
      case measure=>simp[intOf];omega
    ·have c1:0≤g0:=by omega
     clear hc;go_wp2_with fail
     first | go_region_with (first
             | (go_at_call 88;refine(HN.out _).mono ?_;rintro e w2 ⟨rfl,hf⟩
                have ha:=(hj.drew).spot hf;have he:=hd (Hi w2 ha);unfold set6 at he;obtain⟨v0,p0⟩:=ha.slot.cell 0 (by omega);obtain⟨v1,p1⟩:=ha.slot.cell 1 (by omega);obtain⟨v2,p2⟩:=ha.slot.cell 2 (by omega);obtain⟨v3,p3⟩:=ha.slot.cell 3 (by omega);obtain⟨v4,p4⟩:=ha.slot.cell 4 (by omega);obtain⟨v5,p5⟩:=ha.slot.cell 5 (by omega);have f0:=ha.slot.thaw 0;have f1:=ha.slot.thaw 1;have f2:=ha.slot.thaw 2;have f3:=ha.slot.thaw 3;have f4:=ha.slot.thaw 4;have f5:=ha.slot.thaw 5;clear ha hf)) | fail
     all_goals
      clear q0 q1 q2 q3 q4 q5 p0 p1 p2 p3 p4 p5 f0 f1 f2 f3 f4 f5;generalize (((((w2.setCell _ _).setCell _ _).setCell _ _).setCell _ _).setCell _ _).setCell _ _=W at he ⊢;go_wp2
      go_roundw
      case rel=>exact⟨k+1,by omega,by rw[hi.out],by go_num,he⟩
      case measure=>simp[intOf];omega
  ·have hr:k=s.size:=by omega
   subst hr;obtain⟨Hb,He,Hq⟩:=hg.out _ HR.out;have HG:Hid (Pl.wrongFrom p (-1) 0 (s.data.toList.take s.size)=Pl.wrongFrom p (-1) 0 s.data.toList):=by show _=_;rw[Pl.qer s s.size (Nat.le_refl _)]
   have HB:=hd Hq;have Hr:=hd He;clear HR hg Hq hl Ho;generalize Pl.wrongFrom p (-1) 0 (s.data.toList.take s.size)=g0 at HG ⊢;have q0:=Hb.mode;have q1:=Hb.tag;have q2:=Hb.attr;have q3:=Hb.inside;have q4:=Hb.run;have q5:=Hb.far;obtain⟨v0,p0⟩:=He.cell 0 (by omega);obtain⟨v1,p1⟩:=He.cell 1 (by omega);obtain⟨v2,p2⟩:=He.cell 2 (by omega);obtain⟨v3,p3⟩:=He.cell 3 (by omega);obtain⟨v4,p4⟩:=He.cell 4 (by omega);obtain⟨v5,p5⟩:=He.cell 5 (by omega);have f0:=He.thaw 0;have f1:=He.thaw 1;have f2:=He.thaw 2;have f3:=He.thaw 3;have f4:=He.thaw 4;have f5:=He.thaw 5;clear Hb He;go_wp2
   refine qbm Tryz.results54 (w.heap.size+1) _ Tryz.underlying94 rfl (by kernel_rfl) rfl Hr.out rfl _ _ _ _ _ _ _ rfl ?_;refine⟨?_,qbx HB.out (by simp) _ _ _ _ _ _⟩;rw[←HG.out];rfl
end Go.Proofs.YtfkhljmiehdgmaaGreatDoor
namespace Go.Proofs.YtfkhljmiehdgmaaGreatDoor.Pl
theorem q4m(t:List UInt8):∀(n m:Nat) (c:Ct) (a:Nat),CtOk t c a→t.length - a<n→t.length - a<m→Ct.go t n c a=Ct.go t m c a:=by
 intro n
 induction n with
 | zero=>intro m c a _ h _;omega
 | succ n ih=>
   intro m c a hc hn hm;obtain⟨m,rfl⟩:∃k,m=k+1:=⟨m - 1,by omega⟩;unfold Ct.go;cases hs:c.step t a with
   | slip k p=>rfl
   | over d=>rfl
   | next d b=>
     obtain⟨h1,h2⟩:=qf8 hc hs;have:=h1.le;exact ih m d b h1 (by omega) (by omega)
def Ct.rest(t:List UInt8)(c:Ct)(a:Nat):(Nat×Nat)×List Pt:=Ct.go t (t.length - a+1) c a
theorem qoj{t:List UInt8}{c d:Ct}{a b:Nat}(h:CtOk t c a)(hs:c.step t a=.next d b):c.rest t a=d.rest t b:=by
 obtain⟨h1,h2⟩:=qf8 h hs;have:=h1.le;unfold Ct.rest;have e:Ct.go t (t.length - a+1) c a=Ct.go t (t.length - a) d b:=by
  conv=>lhs;unfold Ct.go
  rw[hs]
 rw[e];exact q4m t _ _ d b h1 (by omega) (by omega)
theorem qen{t:List UInt8}{c:Ct}{a k p:Nat}(hs:c.step t a=.slip k p):c.rest t a=((k,p),[]):=by
 unfold Ct.rest Ct.go;rw[hs]
theorem qtv{t:List UInt8}{c d:Ct}{a:Nat}(hs:c.step t a=.over d):c.rest t a=(d.left,d.parts):=by
 unfold Ct.rest Ct.go;rw[hs]
theorem qpb(t:List UInt8)(h:t.length≤2000):qam t=if(Ct.start.rest t 0).1.1=0 then((0,0),(Ct.start.rest t 0).2) else((Ct.start.rest t 0).1,[]):=by
 unfold qam Ct.rest;rw[if_neg (by omega)];rfl
theorem qk8{t:List UInt8}{c:Ct}{a:Nat}(h:(Go.Lib.cut (t.drop a) c.op).2.2=false):c.step t a=.over (c.addText t a t.length):=by
 unfold Ct.step;rw[if_pos h]
theorem qgj{t:List UInt8}{c:Ct}{a:Nat}(h:(Go.Lib.cut (t.drop a) c.op).2.2=true)(h2:(Go.Lib.cut (Go.Lib.cut (t.drop a) c.op).2.1 c.cl).2.2=false):c.step t a=.slip 2 (a+(Go.Lib.cut (t.drop a) c.op).1.length):=by
 unfold Ct.step;rw[if_neg (by rw[h];simp)];simp only[h2,if_true]
theorem qnj{t:List UInt8}{c:Ct}{a:Nat}(h:(Go.Lib.cut (t.drop a) c.op).2.2=true)(h2:(Go.Lib.cut (Go.Lib.cut (t.drop a) c.op).2.1 c.cl).2.2=true)(one:Tg)(h1:qa9 (Go.Lib.trimS (Go.Lib.cut (Go.Lib.cut (t.drop a) c.op).2.1 c.cl).1 qah)=one)
  (p tz:Nat) (hp:a+(Go.Lib.cut (t.drop a) c.op).1.length=p) (ha:p+c.op.length+(Go.Lib.cut (Go.Lib.cut (t.drop a) c.op).2.1 c.cl).1.length+c.cl.length=tz) (o:Nat×Nat) (ho:(if one.kind≠2 then qed t p tz else(p,tz))=o) :
  c.step t a=if((c.addText t a o.1).take one p).1≠0 then .slip ((c.addText t a o.1).take one p).1 p else .next ((c.addText t a o.1).take one p).2 o.2:=by
 subst ho ha hp h1;unfold Ct.step;rw[if_neg (by rw[h];simp)];simp only[h2,Bool.true_eq_false,if_false]
end Go.Proofs.YtfkhljmiehdgmaaGreatDoor.Pl
namespace Go.Proofs.YtfkhljmiehdgmaaGreatDoor
open Go.RowKit
theorem SeAt.drew{w:World}{B:Nat}{F:Fix}{S:List Pl.Src}{vv:Value}{s:Pl.Sr}(h:SeAt w B F S vv s):SeAt w.drew B F S vv s:=h.drewN 1
theorem qdw:qaf Pl.Sx.none=#[.int .u8 0,.string ⟨#[]⟩,.string ⟨#[]⟩,.int .i64 0,.int .i64 0,.bool false,.bool false,.int .i64 0,.int .i64 0,.int .i64 0]:=rfl
theorem qb2:(180:TypeId)≠178:=by decide
theorem qhi:(180:TypeId)≠162:=by decide
structure Bhi(w wr:World)(B:Nat)(F:Fix)(S:List Pl.Src)(vv:Value)(s:Pl.Sr)(E R:Nat)(e:Pl.En)(y:Pl.Sx):Prop where
 se:SeAt wr B F S vv s
 ent:wr.heap[E]?=some (.cells (qao e) 180 (0,0))
 res:StIn wr R y
 old:w.heap.size≤R∧B≤w.heap.size
 cue:Cue B F w wr
 tabs:TabB B wr
theorem Bhi.below{w wr w':World}{B:Nat}{F:Fix}{S:List Pl.Src}{vv:Value}{s:Pl.Sr}{E R:Nat}{e:Pl.En}{y:Pl.Sx}(h:Bhi w wr B F S vv s E R e y)(hb:Below wr.heap.size wr w'):Bhi w w' B F S vv s E R e y:=
 have hB:B≤wr.heap.size:=Nat.le_trans h.old.2 h.cue.below.size
 ⟨h.se.below hb,(hb.block _ (Array.getElem?_eq_some_iff.1 h.ent).1).trans h.ent,h.res.below hb,h.old,h.cue.trans (Cue.of_below hb hB),h.tabs.kept (hb.mono hB)⟩
theorem Bhi.alloc{w wr:World}{B:Nat}{F:Fix}{S:List Pl.Src}{vv:Value}{s:Pl.Sr}{E R:Nat}{e:Pl.En}{y:Pl.Sx}(h:Bhi w wr B F S vv s E R e y)(o:Obj):Bhi w (wr.alloc o) B F S vv s E R e y:=h.below (ba o)
theorem Bhi.drew{w wr:World}{B:Nat}{F:Fix}{S:List Pl.Src}{vv:Value}{s:Pl.Sr}{E R:Nat}{e:Pl.En}{y:Pl.Sx}(h:Bhi w wr B F S vv s E R e y):Bhi w wr.drew B F S vv s E R e y:=h.below (Below.refl _ _).drew
theorem Bhi.turn{w wr w':World}{B:Nat}{F:Fix}{S:List Pl.Src}{vv:Value}{s s':Pl.Sr}{E R:Nat}{e:Pl.En}{y:Pl.Sx}(h:Bhi w wr B F S vv s E R e y)(hs:SeAt w' B F S vv s')(hc:Cue B F wr w'):Bhi w w' B F S vv s' E R e y:=by
 have h1:=hc.keep E (Array.getElem?_eq_some_iff.1 h.ent).1 (fun q=>qae h.se.blk h.ent qb2.symm q.symm) (qak h.ent h.se.ends);have h2:=hc.keep R h.res.lt (fun q=>qae h.se.blk h.res qb1.symm q.symm) (qak h.res h.se.ends);exact⟨hs,h1.trans h.ent,h2.trans h.res,h.old,h.cue.trans hc,h.tabs.kept hc.below⟩
theorem Bhi.set{w wr:World}{B:Nat}{F:Fix}{S:List Pl.Src}{vv:Value}{s:Pl.Sr}{E R:Nat}{e:Pl.En}{x:Pl.Sx}(h:Bhi w wr B F S vv s E R e x)(y:Pl.Sx):Bhi w (qda wr R (.int .u8 (y.st.mode:Int)) (.string ⟨y.st.name.toArray⟩) (.string ⟨y.st.elem.toArray⟩) (.int .i64 y.st.kind) (.int .i64 (y.st.read:Int)) (.bool y.ma.ref) (.bool y.st.esc) (.int .i64 y.ma.hex) (.int .i64 y.ma.pct) (.int .i64 y.ma.far)) B F S vv s E R e y:=by
 have ha:=fun k (hk:k≠R)=>qgw (w:=wr) hk (.int .u8 (y.st.mode:Int)) (.string ⟨y.st.name.toArray⟩) (.string ⟨y.st.elem.toArray⟩) (.int .i64 y.st.kind) (.int .i64 (y.st.read:Int)) (.bool y.ma.ref) (.bool y.st.esc) (.int .i64 y.ma.hex) (.int .i64 y.ma.pct) (.int .i64 y.ma.far);have Ha:Below R wr (qda wr R (.int .u8 (y.st.mode:Int)) (.string ⟨y.st.name.toArray⟩) (.string ⟨y.st.elem.toArray⟩) (.int .i64 y.st.kind) (.int .i64 (y.st.read:Int)) (.bool y.ma.ref) (.bool y.st.esc) (.int .i64 y.ma.hex) (.int .i64 y.ma.pct) (.int .i64 y.ma.far)):=qez (Below.refl _ _) (Nat.le_refl _) _ _ _ _ _ _ _ _ _ _;have hs:=h.res.set y;generalize qda wr R _ _ _ _ _ _ _ _ _ _=w' at ha Ha hs ⊢;exact⟨h.se.far h.res ha,(ha _ (qae h.ent h.res qhi)).trans h.ent,hs,h.old,⟨h.cue.below.trans (Ha.mono (Nat.le_trans h.old.2 h.old.1)),fun k hk h1 h2=>(ha k (by have:=h.old.1;omega)).trans (h.cue.keep k hk h1 h2)⟩,h.tabs.kept (Ha.mono (Nat.le_trans h.old.2 h.old.1))⟩
theorem Bhi.post{w wr:World}{B:Nat}{F:Fix}{S:List Pl.Src}{vv:Value}{s:Pl.Sr}{E R:Nat}{e:Pl.En}{y:Pl.Sx}(h:Bhi w wr B F S vv s E R e y){a:Act}(hp:a.tmps.getD 6 undef=.pointer (some ⟨R,0,none⟩))(hd:a.defers=[]) :
  bodyPost Tryz.prog Tryz.f156 (fun ed w'=>ed=.returned (qap y)∧SeAt w' B F S vv s∧Cue B F w w') .ret a wr:=
 bodyPost_ret (qbk Tryz.results156 _ _ R _ _ hp (qaa h.res) Tryz.underlying162 rfl (by kernel_rfl)) hd ⟨rfl,h.se,h.cue⟩
theorem qcn{w:World}{E:Nat}{e:Pl.En}(h:w.heap[E]?=some (.cells (qao e) 180 (0,0))):∀(j:Nat) (v:Value),(qao e).toList[j]?=some v→w.cell? ⟨E,j,none⟩=some v:=fun j v hv=>qaa h j v hv
theorem qs6(S:List Pl.Src)(hS:SrcsOk S)(w:World)(B:Nat)(F:Fix)(vv:Value)(s:Pl.Sr)(n:List UInt8)(x:Pl.Sx)(h:SeAt w B F S vv s)(hn:n.length≤2000)(hB:B≤w.heap.size)(h0:Pl.qai S n=0) :
  Calls Tryz.prog 156 #[.pointer (some ⟨F.g,0,none⟩),.string ⟨n.toArray⟩,qap x] w fun ed w'=>ed=.returned (qap x)∧SeAt w' B F S vv s∧Cue B F w w':=by
 have b1:∀o o',((w.alloc o).alloc o').cell? ⟨F.g,1,none⟩=some (.map (some F.bp)):=fun o o'=>((h.alloc o).alloc o').cell 1 _ rfl;have b2:∀o o' o'',(((w.alloc o).alloc o').alloc o'').cell? ⟨F.g,1,none⟩=some (.map (some F.bp)):=fun o o' o''=>(((h.alloc o).alloc o').alloc o'').cell 1 _ rfl;have l1:=fun o o'=>((h.alloc o).alloc o').drew.place hS n (by omega);have l2:=fun o o' o''=>(((h.alloc o).alloc o').alloc o'').drew.place hS n (by omega);rw[h0]at l1 l2;generalize (⟨n.toArray⟩:ByteArray)=N at l1 l2 ⊢;unfold qap qaf bs;have HS:=hd h;clear h;go_enter Tryz.func156,Tryz.ntmps156
 go_wp2_with fail
 go_region
 go_wp2_with fail
 refine bodyPost_ret (qbk Tryz.results156 _ _ (w.heap.size+1) _ _ rfl (qaa ((heap_alloc_old _ _ (by simp)).trans (qal (w.alloc _) _ _ (by simp)))) Tryz.underlying162 rfl (by kernel_rfl)) rfl ⟨rfl,(((HS.out.alloc _).alloc _).alloc _).drew,Cue.of_below (((ba _).alloc (by simp) _).alloc (by simp;omega) _).drew hB⟩
theorem qjf{w:World}{B:Nat}{F:Fix}{S:List Pl.Src}{vv:Value}{s:Pl.Sr}{x:Pl.Sx}(h:SeAt w B F S vv s)(hB:B≤w.heap.size)(ht:TabB B w)(i:Nat) :
  Bhi w (((w.alloc (.cells (qaf x) 162)).alloc (.cells (qaf Pl.Sx.none) 162)).alloc (.cells (qao (i,x)) 180)).drew B F S vv s (w.heap.size+1+1) (w.heap.size+1) (i,x) Pl.Sx.none:=by
 have hb:=((((Below.refl w.heap.size w).alloc (Nat.le_refl _) (.cells (qaf x) 162)).alloc (by simp) (.cells (qaf Pl.Sx.none) 162)).alloc (by simp;omega) (.cells (qao (i,x)) 180)).drew;exact⟨(((h.alloc _).alloc _).alloc _).drew,qal (World.alloc (w.alloc _) _) _ _ (by simp),(heap_alloc_old _ _ (by simp)).trans (qal (w.alloc _) _ _ (by simp)),⟨by omega,hB⟩,Cue.of_below hb hB,ht.kept (hb.mono hB)⟩
theorem qvg(S:List Pl.Src)(hS:SrcsOk S)(w:World)(B:Nat)(F:Fix)(vv:Value)(s:Pl.Sr)(n:List UInt8)(x:Pl.Sx)(h:SeAt w B F S vv s)(ho:Pl.EndsOk S.length s.ends)(hx:Pl.SxFit x)(hn:n.length≤2000)(hB:B≤w.heap.size)(ht:TabB B w)(h0:Pl.qai S n≠0)(y:Pl.Sx)(hy:Pl.qa1 s.ends (Pl.qai S n,x)=some y) :
  Calls Tryz.prog 156 #[.pointer (some ⟨F.g,0,none⟩),.string ⟨n.toArray⟩,qap x] w fun ed w'=>ed=.returned (qap y)∧SeAt w' B F S vv s∧Cue B F w w':=by
 have b1:∀o o',((w.alloc o).alloc o').cell? ⟨F.g,1,none⟩=some (.map (some F.bp)):=fun o o'=>((h.alloc o).alloc o').cell 1 _ rfl;have b2:∀o o' o'',(((w.alloc o).alloc o').alloc o'').cell? ⟨F.g,1,none⟩=some (.map (some F.bp)):=fun o o' o''=>(((h.alloc o).alloc o').alloc o'').cell 1 _ rfl;have l1:=fun o o'=>((h.alloc o).alloc o').drew.place hS n (by omega);have l2:=fun o o' o''=>(((h.alloc o).alloc o').alloc o'').drew.place hS n (by omega);have ha:Pl.qai S n≤6:=by have:=Pl.qe2 S n h0;have:=hS.few;omega
 have HI:=hd (qjf (x:=x) h hB ht (Pl.qai S n));generalize hi:Pl.qai S n=i at *;have i0:((i:Int)==0)=false:=by rw[beq_eq_false_iff_ne];omega
 generalize (⟨n.toArray⟩:ByteArray)=N at l1 l2 ⊢;rw[qdw]at HI;unfold qao qaf bs at HI;unfold qap qaf bs;clear h;have HY:=hd hy;clear hy;go_enter Tryz.func156,Tryz.ntmps156
 go_wp2_with fail
 go_region
 go_wp2_with fail
 clear b1 b2 l1 l2;generalize World.drew _=w3 at HI ⊢;have l3:=HI.out.se.drew.look hS ho (i,x) hx ha true;have l4:=fun o=>(HI.out.se.alloc o).drew.look hS ho (i,x) hx ha true;rw[HY.out]at l3 l4;have b1:w3.cell? ⟨F.g,2,none⟩=some (.map (some F.be)):=HI.out.se.cell 2 _ rfl;have b2:∀o,(w3.alloc o).cell? ⟨F.g,2,none⟩=some (.map (some F.be)):=fun o=>(HI.out.se.alloc o).cell 2 _ rfl;have he:=qcn HI.out.ent;have hf:=fun o=>qcn (HI.out.alloc o).ent;unfold qao bs at he hf;have hr:=fun o=>(HI.out.alloc o).res;have r0:=fun o=>(hr o).at'.mode;have r1:=fun o=>(hr o).at'.name;have r2:=fun o=>(hr o).at'.elem;have r3:=fun o=>(hr o).at'.kind;have r4:=fun o=>(hr o).at'.read;have r5:=fun o=>(hr o).at'.ref;have r6:=fun o=>(hr o).at'.esc;have r7:=fun o=>(hr o).at'.hex;have r8:=fun o=>(hr o).at'.pct;have r9:=fun o=>(hr o).at'.far;have f0:=fun o=>(hr o).slot.thaw 0;have f1:=fun o=>(hr o).slot.thaw 1;have f2:=fun o=>(hr o).slot.thaw 2;have f3:=fun o=>(hr o).slot.thaw 3;have f4:=fun o=>(hr o).slot.thaw 4;have f5:=fun o=>(hr o).slot.thaw 5;have f6:=fun o=>(hr o).slot.thaw 6;have f7:=fun o=>(hr o).slot.thaw 7;have f8:=fun o=>(hr o).slot.thaw 8;have f9:=fun o=>(hr o).slot.thaw 9;have m0:=he 0 _ rfl;have m1:=he 1 _ rfl;have m2:=he 2 _ rfl;have m3:=he 3 _ rfl;have m4:=he 4 _ rfl;have m5:=he 5 _ rfl;have m6:=he 6 _ rfl;have m7:=he 7 _ rfl;have m8:=he 8 _ rfl;have m9:=he 9 _ rfl;have m10:=he 10 _ rfl;have n0:=fun o=>hf o 0 _ rfl;have n1:=fun o=>hf o 1 _ rfl;have n2:=fun o=>hf o 2 _ rfl;have n3:=fun o=>hf o 3 _ rfl;have n4:=fun o=>hf o 4 _ rfl;have n5:=fun o=>hf o 5 _ rfl;have n6:=fun o=>hf o 6 _ rfl;have n7:=fun o=>hf o 7 _ rfl;have n8:=fun o=>hf o 8 _ rfl;have n9:=fun o=>hf o 9 _ rfl;have n10:=fun o=>hf o 10 _ rfl;clear he hf hr;have HT:=(show Hid _ from((HI.out.alloc (.cells (qaf y) 162)).set y).drew);unfold qaf bs at HT;simp only[qbi]at l3 l4;unfold qap qaf qao bs at l3 l4;simp only[Option.getD_some,Option.isSome_some,if_true]at l3 l4;go_region
 go_wp2_with fail
 unfold qda at HT;refine(HT.out).post ?_ ?_
 ·rfl
 ·rfl
end Go.Proofs.YtfkhljmiehdgmaaGreatDoor
namespace Go.Proofs.YtfkhljmiehdgmaaGreatDoor.Pl
def stk:List Pt→List Nat→List Nat
 | [],st=>st
 | p::l,st=>if p.kind=3∨p.kind=4 then stk l (p.mate::st) else if p.kind=5 then stk l st.tail else stk l st
theorem qfy(p:Pt)(l:List Pt)(st:List Nat):stk (p::l) st=if p.kind=3∨p.kind=4 then stk l (p.mate::st) else if p.kind=5 then stk l st.tail else stk l st:=rfl
theorem qgn(l m:List Pt):∀st,stk (l++m) st=stk m (stk l st):=by
 induction l with
 | nil=>intro st;rfl
 | cons p l ih=>
   intro st;rw[List.cons_append,qfy,qfy];split
   ·exact ih _
   ·split
    ·exact ih _
    ·exact ih _
theorem q9r{o:Nat}{l:List Pt}(h:Wf o l):(∀st,stk l st=st)∧∀i,i≤l.length→∀st,∃ex,stk (l.take i) st=ex++st∧(∀m∈ex,o+i≤m∧m<o+l.length)∧∀m tl,ex=m::tl→stk (l.take (m - o)) st=ex++st:=by
 induction h with
 | nil o=>exact⟨fun st=>rfl,fun i hi st=>⟨[],by simp[stk],fun m hm=>(by cases hm),fun m tl e=>(by cases e)⟩⟩
 | leaf o p l hk _ ih=>
   have hs:∀l st,stk (p::l) st=stk l st:=fun l st=>by
    rw[qfy,if_neg (by omega),if_neg (by omega)]
   refine⟨fun st=>by rw[hs];exact ih.1 st,fun i hi st=>?_⟩;cases i with
   | zero=>exact⟨[],rfl,fun m hm=>(by cases hm),fun m tl e=>(by cases e)⟩
   | succ i=>
     obtain⟨ex,h1,h2,h3⟩:=ih.2 i (by simpa using hi) st;refine⟨ex,by rw[List.take_succ_cons,hs];exact h1,fun m hm=>?_,fun m tl e=>?_⟩
     ·have:=h2 m hm
      simp only[List.length_cons];omega
     ·have hm:=h2 m (by rw[e];simp)
      rw[show m - o=(m - (o+1))+1 by omega,List.take_succ_cons,hs];exact h3 m tl e
 | sec o p q b l hp hq hm1 hm2 hb _ ihb ihl=>
   have e:p::b++q::l=p::(b++q::l):=by simp
   have hs:∀l st,stk (p::l) st=stk l (p.mate::st):=fun l st=>by
    rw[qfy,if_pos hp]
   have ha:∀l st,stk (q::l) st=stk l st.tail:=fun l st=>by
    rw[qfy,if_neg (by omega),if_pos hq]
   rw[e];refine⟨fun st=>?_,fun i hi st=>?_⟩
   ·rw[hs,qgn,ihb.1,ha]
    exact ihl.1 st
   ·cases i with
    | zero=>exact⟨[],rfl,fun m hm=>(by cases hm),fun m tl e=>(by cases e)⟩
    | succ j=>
      simp only[List.length_cons,List.length_append]at hi ⊢;rw[List.take_succ_cons,hs];by_cases hj:j≤b.length
      ·rw[List.take_append_of_le_length hj]
       obtain⟨ex,h1,h2,h3⟩:=ihb.2 j hj (p.mate::st);refine⟨ex++[p.mate],by rw[h1];simp,fun m hm=>?_,fun m tl e2=>?_⟩
       ·simp only[List.mem_append,List.mem_singleton]at hm
        rcases hm with hm | rfl
        ·have:=h2 m hm;omega
        ·omega
       ·cases ex with
        | nil=>
          simp only[List.nil_append,List.cons.injEq]at e2;obtain⟨rfl,_⟩:=e2;rw[show p.mate - o=b.length+1 by omega,List.take_succ_cons,hs,List.take_left,ihb.1];simp
        | cons m' tl'=>
          simp only[List.cons_append,List.cons.injEq]at e2;obtain⟨rfl,_⟩:=e2;have hm:=h2 m' (by simp);rw[show m' - o=(m' - (o+1))+1 by omega,List.take_succ_cons,hs,List.take_append_of_le_length (by omega),h3 m' tl' rfl];simp
      ·obtain⟨t,rfl⟩:∃t,j=b.length+1+t:=⟨j - (b.length+1),by omega⟩
       have ht:(b++q::l).take (b.length+1+t)=b++q::l.take t:=by
        rw[List.take_append];rw[List.take_of_length_le (by omega),show b.length+1+t - b.length=t+1 by omega,List.take_succ_cons]
       rw[ht,qgn,ihb.1,ha];simp only[List.tail_cons];obtain⟨ex,h1,h2,h3⟩:=ihl.2 t (by omega) st;refine⟨ex,h1,fun m hm=>?_,fun m tl e2=>?_⟩
       ·have:=h2 m hm;omega
       ·have hm:=h2 m (by rw[e2];simp)
        obtain⟨u,hu⟩:∃u,m - o=(b.length+1+u)+1:=⟨m - o - (b.length+2),by omega⟩;have Ha:(b++q::l).take (b.length+1+u)=b++q::l.take u:=by
         rw[List.take_append];rw[List.take_of_length_le (by omega),show b.length+1+u - b.length=u+1 by omega,List.take_succ_cons]
        rw[hu,List.take_succ_cons,hs,Ha,qgn,ihb.1,ha];simp only[List.tail_cons];have:=h3 m tl e2;rw[show m - (o+b.length+2)=u by omega]at this;exact this
theorem q73(l:List Pt):∀st,(stk l st).length≤l.length+st.length:=by
 induction l with
 | nil=>intro st;simp[stk]
 | cons p l ih=>
   intro st;rw[qfy];split
   ·have:=ih (p.mate::st);simp only[List.length_cons]at this ⊢;omega
   ·split
    ·have:=ih st.tail;rw[List.length_tail]at this;simp only[List.length_cons];omega
    ·have:=ih st;simp only[List.length_cons];omega
theorem q6v(l m:List Pt):∀st,deep (l++m) st.length=true→deep m (stk l st).length=true:=by
 induction l with
 | nil=>intro st h;exact h
 | cons p l ih=>
   intro st h;have h:deep (p::(l++m)) st.length=true:=h;unfold deep at h;rw[qfy];by_cases h3:p.kind=3∨p.kind=4
   ·rw[if_pos h3]at h ⊢
    exact ih (p.mate::st) (by simpa using h)
   rw[if_neg h3]at h ⊢;by_cases h5:p.kind=5
   ·rw[if_pos h5]at h ⊢
    simp only[ne_eq,Bool.and_eq_true,decide_eq_true_eq]at h;exact ih st.tail (by simpa using h.2)
   ·rw[if_neg h5]at h ⊢
    exact ih st h
theorem q42{o:Nat}{l:List Pt}(h:Wf o l):∀(i:Nat) (p:Pt),l[i]?=some p→p.kind=5→p.mate<o+l.length∧o≤p.mate:=by
 induction h with
 | nil o=>intro i p hp;simp at hp
 | leaf o q l hk _ ih=>
   intro i p hp h5;cases i with
   | zero=>simp at hp;subst hp;omega
   | succ i=>
     have:=ih i p (by simpa using hp) h5;simp only[List.length_cons];omega
 | sec o q z b l hq hz h1 h2 hb _ ihb ihl=>
   intro i p hp h5;have e:q::b++z::l=q::(b++z::l):=by simp
   rw[e]at hp ⊢;simp only[List.length_cons,List.length_append];cases i with
   | zero=>simp at hp;subst hp;omega
   | succ i=>
     simp only[List.getElem?_cons_succ]at hp;rw[List.getElem?_append]at hp;split at hp
     ·have:=ihb i p hp h5;omega
     ·rename_i hi
      cases hx:i - b.length with
      | zero=>rw[hx]at hp;simp at hp;subst hp;omega
      | succ j=>
        rw[hx]at hp;have:=ihl j p (by simpa using hp) h5;omega
theorem qpi(S:List Src)(k:Nat)(s:Sr)(n:List UInt8)(x:Sx)(h:qai S n=0):behV S k s n x=(s,x):=by
 cases k with
 | zero=>rfl
 | succ k=>unfold behV;rw[if_pos h]
def nmV(S:List Src)(k:Nat)(s:Sr)(n:List UInt8)(x:Sx):Sr×Nat×Sx:=
 let r:=behV S 257 s n x
 if qai S n=0∨r.1.fault.code≠0 then(r.1,0,r.2)
 else if qgz r.1 (qai S n,x)=0 then
  (qfq S k r.1 (qai S n,x),qgz (qfq S k r.1 (qai S n,x)) (qai S n,x),r.2)
 else(r.1,qgz r.1 (qai S n,x),r.2)
theorem qqp(S:List Src)(k:Nat)(s:Sr)(n:List UInt8)(x:Sx)(h:qai S n=0):nmV S k s n x=(s,0,x):=by
 unfold nmV;rw[qpi S _ s n x h];simp only;rw[if_pos (.inl h)]
def begun(S:List Src)(s:Sr)(e:En):Sr:={ s with nums:=qa5 s.nums e s.vis.length,vis:=s.vis++[(e.1,List.replicate (qab S e.1).length 0)] }
theorem qk6(S:List Src)(k:Nat)(s:Sr)(e:En):qfq S (k+1) s e=goV (nmV S k) S e.1 s.vis.length (qab S e.1) ((qab S e.1).length+1) 0 (begun S s e) e.2 []:=by
 conv=>lhs;unfold qfq
 rfl
def qzo(S:List Src)(P:List Pt):Prop:=∀p∈P,p.kind=6→qai S p.text=0
theorem qv6(S:List Src)(k:Nat)(s:Sr)(e:En)(hw:Wf 0 (qab S e.1))(ha:qzo S (qab S e.1))(h0:s.fault.code=0)(hx:SxOk e.2) :
  q69 S e.1 (qab S e.1) (begun S s e) (qek (qab S e.1) e.2 []) (qfq S (k+1) s e):=by
 rw[qk6]
 have:=q6h (nmV S k) S e.1 s.vis.length (qab S e.1) (qk1 hw) (fun p hp hk s x=>qqp S k s _ x (ha p hp hk)) (begun S s e) h0 ((qab S e.1).length+1) 0 (begun S s e) e.2 [] (by omega)
  (by rw[List.drop_zero];have:=q4f hw [] 0 rfl;simpa using this) rfl (Marks.refl _) hx
 rw[List.drop_zero]at this;exact this
theorem qv0(S:List Src)(k:Nat)(s:Sr)(P:List Pt)(hw:Wf 0 P)(ha:qzo S P)(x:Sx)(hx:SxOk x)(B:List Sx)(y:Sx×List Sx)(h:qek P x B=some y):qde (behV S k) P (P.length+1) 0 s x=(s,y.1):=
 qzs (behV S k) hw P rfl (fun p hp hk s x=>qpi S k s _ x (ha p hp hk)) _ s x B y (by omega) hx h
theorem qw4(S:List Src)(len:Nat)(hw:Wf 0 (qab S 0))(ha:qzo S (qab S 0)) :
  match qek (qab S 0) Sx.start [] with
  | some y=>(y.1=Sx.start→(qec S len).2=Ft.none∧(qec S len).1.length=1)∧(y.1≠Sx.start→(qec S len).2=⟨3,15,qep S 0,len⟩)
  | Option.none=>(qec S len).2.code=3∧(qec S len).2.place=qep S 0∧((qec S len).2.pos=0∨∃p∈qab S 0,(qec S len).2.pos=p.pos∨(p.kind=1∧(qec S len).2.pos<p.pos+p.text.length)):=by
 have h:=qv6 S 257 ⟨[],[],[],Ft.none⟩ (0,Sx.start) hw ha rfl qjm;unfold qec;simp only;generalize qfq S 258 ⟨[],[],[],Ft.none⟩ (0,Sx.start)=s at h;unfold q69 at h;cases hf:qek (qab S 0) Sx.start [] with
 | none=>
   simp only[hf]at h ⊢;have:s.fault.code≠0:=by rw[h.1];decide
   rw[if_pos this];exact h
 | some y=>
   simp only[hf]at h ⊢;have hz:s.fault.code=0:=by rw[h.1];rfl
   have Ha:=qv0 S 257 s _ hw ha Sx.start qjm [] y hf;rw[if_neg (by rw[hz];simp),Ha];have hy:SxOk y.1:=by
    clear Ha h hz;have hb:∀(l:List Pt) (x:Sx) (B:List Sx) (y:Sx×List Sx),SxOk x→qek l x B=some y→SxOk y.1:=by
     intro l
     induction l with
     | nil=>intro x B y hx h;injection h with h;subst h;exact hx
     | cons p l ih=>
       intro x B y hx h;obtain⟨z,h1,h2⟩:=Option.bind_eq_some_iff.1 h;exact ih _ _ _ (qp7 hx h1) h2
    exact hb _ _ _ _ qjm hf
   refine⟨fun e=>?_,fun e=>?_⟩
   ·rw[if_neg (fun q=>q.2 e),if_neg (by rw[hz];simp)]
    refine⟨rfl,?_⟩;rw[h.2.vis];rfl
   ·rw[if_pos ⟨qjs hy,e⟩]
end Go.Proofs.YtfkhljmiehdgmaaGreatDoor.Pl
