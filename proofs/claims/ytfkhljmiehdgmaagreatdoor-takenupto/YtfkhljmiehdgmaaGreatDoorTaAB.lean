/-
  Steps of the proof (texts laid together, blanks left out): PcC, WalkA, PgAid, PgWA.
-/
import Derived.Test.YtfkhljmiehdgmaaGreatDoorTaAA
import Derived.Test.YtfkhljmiehdgmaaGreatDoorRows
import Derived.WalkKit
import Derived.WalkSpells
import Derived.WalkLawsBesides
import Derived.BigQuiet
import Derived.Deep.QuietTactic
import Derived.RegionTactic
import Derived.BigRegion
import Derived.Deep.RegionWith
namespace Go.Proofs.YtfkhljmiehdgmaaGreatDoor.Pl
theorem q19 {b:Bool} (h:¬ b=false):b=true:=by cases b<;>simp_all
theorem qiq (s x:List UInt8) (h:(Go.Lib.cut s x).2.2=true):∃ i:Nat,Go.Lib.index s x=i∧i+x.length≤s.length∧(Go.Lib.cut s x).1=s.take i∧(Go.Lib.cut s x).2.1=s.drop (i+x.length)∧(Go.Lib.cut s x).1.length=i:=by
 unfold Go.Lib.cut at h ⊢
 by_cases h0:0≤Go.Lib.index s x
 ·have hr:=Go.Lib.index_room s x h0
  rw[if_pos h0]
  refine⟨(Go.Lib.index s x).toNat,by omega,by omega,rfl,rfl,?_⟩
  simp only[List.length_take]
  omega
 ·rw[if_neg h0]at h; cases h
theorem qji {α:Type} (f:α→Bool) (l:List α):(l.dropWhile f).length≤l.length:=(List.dropWhile_sublist f).length_le
theorem qqh (l cs:List UInt8):(Go.Lib.trimRightS l cs).length≤l.length:=by
 unfold Go.Lib.trimRightS
 have:=qji (cs.contains ·) l.reverse
 simpa using this
theorem qka (l cs:List UInt8):(Go.Lib.trimLeftS l cs).length≤l.length:=qji _ _
theorem qwm (l p:List UInt8):(Go.Lib.trimPrefix l p).length≤l.length:=by
 unfold Go.Lib.trimPrefix
 split<;>simp
theorem qns (t:List UInt8) (a z:Nat) (h:a≤t.length) (hz:z≤t.length):(qdr t a z).1≤a∧z≤(qdr t a z).2∧(qdr t a z).2≤t.length:=by
 unfold qdr
 split
 ·exact⟨Nat.le_refl _,Nat.le_refl _,hz⟩
 ·have h1:=qqh (t.take a) qet
  have h2:=qwm (Go.Lib.trimLeftS (t.drop z) qet) [10]
  have h3:=qka (t.drop z) qet
  rw[List.length_take]at h1
  rw[List.length_drop]at h3
  refine⟨?_,?_,?_⟩<;>simp only<;>omega
theorem qo5 (l:List UInt8):∀ cur,∀ x∈qcz cur l,x≠[]:=by
 induction l with
 | nil=>intro cur x hx; unfold qcz at hx; split at hx<;>simp_all
 | cons b l ih=>
   intro cur x hx
   unfold qcz at hx
   split at hx
   ·split at hx
    ·exact ih _ x hx
    ·rcases List.mem_cons.1 hx with rfl | hx
     ·assumption
     ·exact ih _ x hx
   ·exact ih _ x hx
structure TgOk (one:Tg):Prop where
 kind:2≤one.kind∧one.kind≤8
 op:one.kind=8→one.slip=0→(1≤one.op.length∧one.op.length≤3)∧1≤one.cl.length∧one.cl.length≤3
theorem qs5 (c:List UInt8):2≤qa6 c∧qa6 c≤8:=by
 unfold qa6
 split
 ·omega
 ·repeat' split
  all_goals omega
theorem qtv {l:List UInt8} (h:l≠[]):1≤l.length:=by
 cases l with
 | nil=>exact absurd rfl h
 | cons b l=>simp
theorem q0p (c:List UInt8):TgOk (qga c):=by
 unfold qga
 split
 ·exact⟨by simp,fun _ h=>by cases h⟩
 ·split
  ·rename_i a b hw
   have h1:=qo5 _ _ a (by show a∈qkx _; rw[hw]; simp)
   have h2:=qo5 _ _ b (by show b∈qkx _; rw[hw]; simp)
   split
   ·rename_i hd
    obtain⟨d1,d2⟩:=hd
    unfold qeh at d1 d2
    simp only[Bool.and_eq_true,decide_eq_true_eq]at d1 d2
    exact⟨by simp,fun _ _=>⟨⟨qtv h1,d1.1⟩,qtv h2,d2.1⟩⟩
   ·exact⟨by simp,fun _ h=>by cases h⟩
  ·exact⟨by simp,fun _ h=>by cases h⟩
theorem qpk (k:Nat) (n:List UInt8) (h:2≤k∧k<8):TgOk (qc4 k n):=by
 unfold qc4
 split<;>split<;>exact⟨by simp; omega,fun e=>by simp at e; omega⟩
theorem qnf (c:List UInt8):TgOk (qcg c):=by
 have hk:=qs5 c
 unfold qcg
 split
 ·exact⟨by simp,fun h=>by cases h⟩
 ·split
  ·exact q0p c
  ·split
   ·exact qpk _ _ (by omega)
   ·exact qpk _ _ (by omega)
structure CtOk (t:List UInt8) (c:Ct) (a:Nat):Prop where
 op:1≤c.op.length∧c.op.length≤3
 cl:1≤c.cl.length∧c.cl.length≤3
 le:a≤t.length
 few:c.parts.length≤a
 six:c.opened.length≤6
 wf:WfO c.parts c.opened
theorem qhe (t:List UInt8):CtOk t Ct.start 0:=⟨by decide,by decide,Nat.zero_le _,by decide,by decide,.done _ (.nil _)⟩
theorem qhh {t:List UInt8} {c:Ct} {a:Nat} (h:CtOk t c a) (z n:Nat) (hn:a≤n) (hz:z≤n) (ht:n≤t.length):CtOk t (c.addText t a z) n:=by
 unfold Ct.addText
 split
 ·rename_i q
  have:=h.few
  exact⟨h.op,h.cl,ht,by simp; omega,h.six,h.wf.snoc _ (.inl rfl)⟩
 ·exact⟨h.op,h.cl,ht,Nat.le_trans h.few hn,h.six,h.wf⟩
theorem qjo (l:List Pt) (m n:Nat):(qbm l m n).length=l.length:=by simp[qbm]
theorem q2a {t:List UInt8} {c:Ct} {a:Nat} (h:CtOk t c a) (one:Tg) (ho:TgOk one) (p n:Nat) (hn:a+1≤n) (ht:n≤t.length) (hs:(c.take one p).1=0):CtOk t (c.take one p).2 n:=by
 unfold Ct.take at hs ⊢
 have hf:=h.few
 by_cases h1:one.slip≠0
 ·rw[if_pos h1]at hs; exact absurd hs h1
 rw[if_neg h1]at hs ⊢
 have h1:one.slip=0:=by omega
 by_cases h2:one.kind=7
 ·rw[if_pos h2]; exact⟨h.op,h.cl,ht,by show c.parts.length≤_; omega,h.six,h.wf⟩
 rw[if_neg h2]at hs ⊢
 by_cases h3:one.kind=8
 ·rw[if_pos h3]; exact⟨(ho.op h3 h1).1,(ho.op h3 h1).2,ht,by show c.parts.length≤_; omega,h.six,h.wf⟩
 rw[if_neg h3]at hs ⊢
 by_cases h4:one.kind=3∨one.kind=4
 ·rw[if_pos h4]at hs ⊢
  by_cases h5:c.opened.length=6
  ·rw[if_pos h5]at hs; cases hs
  ·rw[if_neg h5]
   have:=h.six
   exact⟨h.op,h.cl,ht,by simp; omega,by simp; omega,h.wf.push _ h4⟩
 rw[if_neg h4]at hs ⊢
 by_cases h5:one.kind=5
 ·rw[if_pos h5]at hs ⊢
  cases hl:c.opened.getLast? with
  | none=>rw[hl]at hs; cases hs
  | some m=>
    rw[hl]at hs
    by_cases h6:qmw c.parts m≠one.name
    ·simp only[if_pos h6]at hs; cases hs
    ·simp only[if_neg h6]
     have:=h.six
     refine⟨h.op,h.cl,ht,by simp[qjo]; omega,by simp; omega,?_⟩
     exact h.wf.pop m hl ⟨5,p,one.name,m⟩ rfl rfl
 ·rw[if_neg h5]
  have:=ho.kind
  exact⟨h.op,h.cl,ht,by simp; omega,h.six,h.wf.snoc _ (by simp only; omega)⟩
theorem qfi {t:List UInt8} {c:Ct} {a:Nat} (h:CtOk t c a) {d:Ct} {b:Nat} (hs:c.step t a=.next d b):CtOk t d b∧a<b:=by
 unfold Ct.step at hs
 have hle:=h.le
 by_cases h1:(Go.Lib.cut (t.drop a) c.op).2.2=false
 ·rw[if_pos h1]at hs; cases hs
 rw[if_neg h1]at hs
 obtain⟨i,_,hi,_,hr,hil⟩:=qiq _ _ (q19 h1)
 simp only[hil,hr]at hs
 rw[List.length_drop]at hi
 by_cases h2:(Go.Lib.cut ((t.drop a).drop (i+c.op.length)) c.cl).2.2=false
 ·rw[if_pos h2]at hs; cases hs
 rw[if_neg h2]at hs
 obtain⟨j,_,hj,_,_,hjl⟩:=qiq _ _ (q19 h2)
 rw[hjl]at hs
 rw[List.length_drop,List.length_drop]at hj
 have hone:=qnf (Go.Lib.trimS (Go.Lib.cut ((t.drop a).drop (i+c.op.length)) c.cl).1 qbc)
 generalize qcg _=one at hs hone
 have ho:=h.op
 have hc:=h.cl
 have hO:(if one.kind≠2 then qdr t (a+i) (a+i+c.op.length+j+c.cl.length) else(a+i,a+i+c.op.length+j+c.cl.length)).1≤a+i∧a+i+c.op.length+j+c.cl.length≤(if one.kind≠2 then qdr t (a+i) (a+i+c.op.length+j+c.cl.length) else(a+i,a+i+c.op.length+j+c.cl.length)).2∧(if one.kind≠2 then qdr t (a+i) (a+i+c.op.length+j+c.cl.length) else(a+i,a+i+c.op.length+j+c.cl.length)).2≤t.length:=by
  split
  ·exact qns _ _ _ (by omega) (by omega)
  ·refine⟨Nat.le_refl _,Nat.le_refl _,?_⟩; show a+i+c.op.length+j+c.cl.length≤t.length; omega
 generalize (if one.kind≠2 then qdr t (a+i) (a+i+c.op.length+j+c.cl.length) else(a+i,a+i+c.op.length+j+c.cl.length))=o at hs hO
 obtain⟨o1,o2⟩:=o
 simp only at hs hO
 by_cases h3:((c.addText t a o1).take one (a+i)).1≠0
 ·rw[if_pos h3]at hs; cases hs
 rw[if_neg h3]at hs
 injection hs with e1 e2
 subst e1 e2
 refine⟨q2a (a:=a+i) (qhh h o1 _ (by omega) (by omega) (by omega)) one hone _ _ (by omega) (by omega) (by omega),by omega⟩
theorem q2b {l:List Pt} {st:List Nat} (h:WfO l st) (hs:st.getLast?=none):Wf 0 l:=by
 cases h with
 | done l h=>exact h
 | opn=>simp at hs
theorem qv4 {t:List UInt8} {c:Ct} {a k p:Nat} (hs:c.step t a=.slip k p):k≠0:=by
 unfold Ct.step at hs
 by_cases h1:(Go.Lib.cut (t.drop a) c.op).2.2=false
 ·rw[if_pos h1]at hs; cases hs
 rw[if_neg h1]at hs
 simp only at hs
 by_cases h2:(Go.Lib.cut (Go.Lib.cut (t.drop a) c.op).2.1 c.cl).2.2=false
 ·rw[if_pos h2]at hs; injection hs with e _; omega
 rw[if_neg h2]at hs
 generalize hO:(if(qcg _).kind≠2 then _ else _:Nat×Nat)=o at hs
 by_cases h3:((c.addText t a o.1).take (qcg (Go.Lib.trimS (Go.Lib.cut (Go.Lib.cut (t.drop a) c.op).2.1 c.cl).1 qbc)) (a+(Go.Lib.cut (t.drop a) c.op).1.length)).1≠0
 ·rw[if_pos h3]at hs; injection hs with e _; rw[← e]; exact h3
 ·rw[if_neg h3]at hs; cases hs
theorem qv5 {t:List UInt8} {c d:Ct} {a:Nat} (hs:c.step t a=.over d):d=c.addText t a t.length:=by
 unfold Ct.step at hs
 by_cases h1:(Go.Lib.cut (t.drop a) c.op).2.2=false
 ·rw[if_pos h1]at hs; injection hs with e; exact e.symm
 rw[if_neg h1]at hs
 simp only at hs
 by_cases h2:(Go.Lib.cut (Go.Lib.cut (t.drop a) c.op).2.1 c.cl).2.2=false
 ·rw[if_pos h2]at hs; cases hs
 rw[if_neg h2]at hs
 generalize hO:(if(qcg _).kind≠2 then _ else _:Nat×Nat)=o at hs
 by_cases h3:((c.addText t a o.1).take (qcg (Go.Lib.trimS (Go.Lib.cut (Go.Lib.cut (t.drop a) c.op).2.1 c.cl).1 qbc)) (a+(Go.Lib.cut (t.drop a) c.op).1.length)).1≠0
 ·rw[if_pos h3]at hs; cases hs
 ·rw[if_neg h3]at hs; cases hs
theorem q7a (t:List UInt8):∀(n:Nat) (c:Ct) (a:Nat),CtOk t c a→t.length - a<n→(Ct.go t n c a).1.1=0→Wf 0 (Ct.go t n c a).2∧(Ct.go t n c a).2.length≤t.length:=by
 intro n
 induction n with
 | zero=>intro c a _ h; omega
 | succ n ih=>
   intro c a hc hn hs
   unfold Ct.go at hs ⊢
   cases hst:c.step t a with
   | slip k p=>
     rw[hst]at hs
     exact absurd hs (qv4 hst)
   | over d=>
     rw[hst]at hs
     simp only at hs ⊢
     have hd:CtOk t d t.length:=by rw[qv5 hst]; exact qhh hc _ _ hc.le (Nat.le_refl _) (Nat.le_refl _)
     refine⟨q2b hd.wf ?_,hd.few⟩
     unfold Ct.left at hs
     cases hl:d.opened.getLast? with
     | none=>rfl
     | some m=>rw[hl]at hs; cases hs
   | next d b=>
     rw[hst]at hs
     obtain⟨h1,h2⟩:=qfi hc hst
     have:=h1.le
     exact ih d b h1 (by omega) hs
theorem qir (t:List UInt8) (h:(qav t).1.1=0):Wf 0 (qav t).2∧(qav t).2.length≤t.length:=by
 unfold qav at h ⊢
 split at h
 ·cases h
 ·split at h
  ·rename_i h1 h2
   rw[if_neg h1,if_pos h2]
   exact q7a t _ _ _ (qhe t) (by omega) h2
  ·rename_i h1 h2; exact absurd h h2
end Go.Proofs.YtfkhljmiehdgmaaGreatDoor.Pl
namespace Go.Proofs.YtfkhljmiehdgmaaGreatDoor
open Go.RowKit
theorem qax {a b:Bool} (h:a=b):Ending.returned (.bool a)=.returned (.bool b):=by rw[h]
theorem qa5 {k:IntKind} {a b:Int} (h:a=b):Ending.returned (.int k a)=.returned (.int k b):=by rw[h]
theorem qe0 {a b:ByteArray} (h:a=b):Ending.returned (.string a)=.returned (.string b):=by rw[h]
set_option maxHeartbeats 400000 in
theorem qmm (b:UInt8) (w:World) :
  Calls Tryz.prog 181 #[.int .u8 b.toNat] w fun e w'=>e=.returned (.bool (Pl.qg4 b))∧w=w':=by
 by_cases h1:65≤b.toNat<;>by_cases h2:b.toNat≤90
 all_goals
  have H:Hid (Pl.qg4 b=_):=show Pl.qg4 b=(decide (65≤b.toNat) && decide (b.toNat≤90)) from rfl
  go_enter Tryz.func181,Tryz.ntmps181
  go_wp2
  all_goals
   go_ret
   exact⟨qax (by rw[H.out]; simp[h1,h2]<;>omega),rfl⟩
set_option maxHeartbeats 400000 in
theorem qcu (b:UInt8) (w:World) :
  Calls Tryz.prog 102 #[.int .u8 b.toNat] w fun e w'=>e=.returned (.bool (Pl.qde b))∧w=w':=by
 by_cases h1:48≤b.toNat<;>by_cases h2:b.toNat≤57
 all_goals
  have H:Hid (Pl.qde b=_):=show Pl.qde b=(decide (48≤b.toNat) && decide (b.toNat≤57)) from rfl
  go_enter Tryz.func102,Tryz.ntmps102
  go_wp2
  all_goals
   go_ret
   exact⟨qax (by rw[H.out]; simp[h1,h2]<;>omega),rfl⟩
theorem add8 (b:UInt8) (h:b.toNat≤90):((b+32).toNat:Int)=b.toNat+32:=by
 rw[UInt8.toNat_add]; simp; omega
set_option maxHeartbeats 400000 in
theorem qbx (b:UInt8) (w:World) :
  Calls Tryz.prog 132 #[.int .u8 b.toNat] w fun e w'=>e=.returned (.bool (Pl.qcm b))∧w=w':=by
 by_cases h1:97≤b.toNat<;>by_cases h2:b.toNat≤122
 all_goals
  have H:Hid (Pl.qcm b=_):=show Pl.qcm b=((decide (97≤b.toNat) && decide (b.toNat≤122)) || Pl.qg4 b) from rfl
  go_enter Tryz.func132,Tryz.ntmps132
  go_wp2_with (go_at_call 181; refine(qmm b _).mono ?_; rintro e w' ⟨rfl,rfl⟩)
  all_goals
   go_ret
   exact⟨qax (by rw[H.out]; simp[h1,h2]<;>omega),rfl⟩
def aggD:TypeDesc→Bool
 | .struct _=>true
 | .array _ _=>true
 | _=>false
theorem qbn {P:Program} {fn:Func} {p:Tmp} {ty:TypeId} (h:fn.results=#[.cell p ty]) (tmps:Array Value) (w:World) (g:Nat) (cs:Array Value) (d:TypeDesc) (hp:tmps.getD p undef=.pointer (some ⟨g,0,none⟩))
  (hg:∀ j v,cs.toList[j]?=some v→w.cell? ⟨g,j,none⟩=some v)
  (hu:P.underlying ty=some d) (hd:aggD d=true) (hi:(P.info? ty).map (·.size)=some cs.size) :
  (results fn tmps).run P w=.ok (.agg cs) w:=by
 have hl:=qbw (P:=P) w g ty cs d hg hu (by cases d<;>first | rfl | cases hd) hi
 rw[Array.getD_eq_getD_getElem?]at hp
 simp only[results,h]
 simp[hp,asAddr,hl]
theorem qaa {w:World} {g:Nat} {cs:Array Value} {t:TypeId} {fz:Nat×Nat} (h:w.heap[g]?=some (.cells cs t fz)):∀(j:Nat) (v:Value),cs.toList[j]?=some v→w.cell? ⟨g,j,none⟩=some v:=by
 intro j v hv
 rw[cell_of_row w g j cs t fz h]
 simpa using hv
theorem qaz {P:Program} {fn:Func} {R:Ending→World→Prop} {a:Act} {w:World} {p:Tmp} {ty t:TypeId} {fz:Nat×Nat} (h:fn.results=#[.cell p ty]) (g:Nat) (cs:Array Value) (d:TypeDesc)
  (hu:P.underlying ty=some d) (hd:aggD d=true)
  (hp:a.tmps.getD p undef=.pointer (some ⟨g,0,none⟩)) (hg:w.heap[g]?=some (.cells cs t fz)) (hi:(P.info? ty).map (·.size)=some cs.size) (hdf:a.defers=[]) (hR:R (.returned (.agg cs)) w):bodyPost P fn R .ret a w:=
 bodyPost_ret (qbn h a.tmps w g cs d hp (qaa hg) hu hd hi) hdf hR
theorem qk1 {P:Program} {f:FuncId} {args:Array Value} {w:World} {n:Nat} {v:Value}
  (h:Calls P f args (w.drewN n) fun e w'=>e=.returned v∧w.drewN n=w'):Calls P f args (w.drewN n) fun e w''=>e=.returned v∧∃ m,w''=w.drewN m:=
 h.mono fun _ _ ⟨he,hm⟩=>⟨he,n,hm.symm⟩
theorem qa3 {B:Nat} {a w:World} (h:Below B a w) (n:Nat):Below B a (w.drewN n):=⟨h.os,h.tape,h.output,h.size,h.block⟩
set_option maxHeartbeats 400000 in
theorem qh6 (b:UInt8) (w:World) :
  Calls Tryz.prog 131 #[.int .u8 b.toNat] w fun e w'=>e=.returned (.int .u8 (Pl.small b).toNat)∧w=w':=by
 by_cases h1:Pl.qg4 b=true
 ·have H:Hid ((Pl.small b).toNat=(b.toNat:Int)+32):=by
   show _=_
   unfold Pl.small; rw[if_pos h1]
   simp only[Pl.qg4,Bool.and_eq_true,decide_eq_true_eq]at h1
   exact add8 b h1.2
  have hb:b.toNat≤90:=by simp only[Pl.qg4,Bool.and_eq_true,decide_eq_true_eq]at h1; exact h1.2
  have hw:IntKind.u8.wrap ((b.toNat:Int)+32)=(b.toNat:Int)+32:=by rw[IntKind.wrap_u8]; omega
  go_enter Tryz.func131,Tryz.ntmps131
  go_wp2_with (go_at_call 181; refine(qmm b _).mono ?_; rintro e w' ⟨rfl,rfl⟩)
  go_ret
  exact⟨qa5 (by rw[H.out]),rfl⟩
 ·have h1:Pl.qg4 b=false:=Bool.eq_false_iff.2 h1
  have H:Hid (Pl.small b=b):=by show _=_; unfold Pl.small; rw[h1]; rfl
  go_enter Tryz.func131,Tryz.ntmps131
  go_wp2_with (go_at_call 181; refine(qmm b _).mono ?_; rintro e w' ⟨rfl,rfl⟩)
  go_ret
  exact⟨qa5 (by rw[H.out]),rfl⟩
theorem q3k (x:UInt8) (w:World):(convert 82 9 (.slice (some ⟨w.heap.size,0,none⟩) 1 1)).run Tryz.prog (w.alloc (.cells #[.int .u8 x.toNat] 5))=.ok (.string ⟨#[x]⟩) (w.alloc (.cells #[.int .u8 x.toNat] 5)):=by
 refine run_convert_bytes_back _ 82 9 5 ⟨w.heap.size,0,none⟩ 1 [x] Tryz.underlying82 Tryz.underlying5 Tryz.underlying9 ?_
 intro j hj
 match j,hj with
 | 0,_=>simp[Addr.add]
set_option maxRecDepth 100000 in
set_option maxHeartbeats 800000 in
theorem qnq (n:List UInt8) (b:UInt8) (w:World) (h9:n.length=9) :
  Calls Tryz.prog 135 #[.string ⟨n.toArray⟩,.int .u8 b.toNat] w fun e w'=>e=.returned (.string ⟨(Pl.qdg n b).toArray⟩)∧w=w':=by
 have hz:(ByteArray.mk n.toArray).size=n.length:=by simp[ByteArray.size]
 have H:Hid (Pl.qdg n b=n):=by show _=_; unfold Pl.qdg; rw[if_pos h9]
 go_enter Tryz.func135,Tryz.ntmps135
 go_wp2
 go_ret
 exact⟨qe0 (by rw[H.out]),rfl⟩
set_option maxRecDepth 100000 in
set_option maxHeartbeats 800000 in
theorem qhw (n:List UInt8) (b:UInt8) (w:World) (hn:n.length≤9) (h9:¬ n.length=9) :
  Calls Tryz.prog 135 #[.string ⟨n.toArray⟩,.int .u8 b.toNat] w fun e w'=>e=.returned (.string ⟨(Pl.qdg n b).toArray⟩)∧w.alloc (.cells #[.int .u8 (Pl.small b).toNat] 5)=w':=by
 have hz:(ByteArray.mk n.toArray).size=n.length:=by simp[ByteArray.size]
 have H:Hid (Pl.qdg n b=n++[Pl.small b]):=by show _=_; unfold Pl.qdg; rw[if_neg h9]
 have hcv:=q3k (Pl.small b) w
 go_enter Tryz.func135,Tryz.ntmps135
 go_wp2_with (go_at_call 131; refine(qh6 b _).mono ?_; rintro e w' ⟨rfl,rfl⟩)
 go_ret
 exact⟨qe0 (by rw[H.out]; apply ByteArray.ext; simp),rfl⟩
theorem qfy {n l:List UInt8} (h:(l==n)=true) (hl:l=Pl.qfc∨l=Pl.qiv∨l=Pl.qdm∨l=Pl.qek):Pl.qci n=n:=by
 rw[beq_iff_eq]at h
 subst h
 unfold Pl.qci
 rw[if_pos hl]
theorem qtq {n:List UInt8} (h1:(Pl.qfc==n)=false) (h2:(Pl.qiv==n)=false) (h3:(Pl.qdm==n)=false) (h4:(Pl.qek==n)=false):Pl.qci n=[]:=by
 rw[beq_eq_false_iff_ne]at h1 h2 h3 h4
 unfold Pl.qci
 rw[if_neg]
 rintro(e | e | e | e)
 ·exact h1 e.symm
 ·exact h2 e.symm
 ·exact h3 e.symm
 ·exact h4 e.symm
set_option maxRecDepth 100000 in
set_option maxHeartbeats 1600000 in
theorem qra (n:List UInt8) (w:World) (ht:PTabs w) :
  Calls Tryz.prog 185 #[.string ⟨n.toArray⟩] w fun e w'=>e=.returned (.string ⟨(Pl.qci n).toArray⟩)∧w=w':=by
 have c0:=(qec ht.el 0 _ rfl).1
 have c1:=(qec ht.el 1 _ rfl).1
 have c2:=(qec ht.el 2 _ rfl).1
 have c3:=(qec ht.el 3 _ rfl).1
 simp only[bs,Pl.qfc,Pl.qiv,Pl.qdm,Pl.qek,Nat.mul_zero,Nat.reduceMul]at c0 c1 c2 c3
 clear ht
 go_enter Tryz.func185,Tryz.ntmps185
 go_wp2
 go_loop [3,4] (fun _ i=>∃ k:Nat,k≤4∧i=.int .i64 k∧(1≤k→(Pl.qfc==n)=false)∧(2≤k→(Pl.qiv==n)=false)∧(3≤k→(Pl.qdm==n)=false)∧(4≤k→(Pl.qek==n)=false)) (fun _ i=>4 - (intOf i).toNat)
 case atStart=>exact⟨0,by omega,rfl,by omega,by omega,by omega,by omega⟩
 case round=>
  obtain⟨k,hk,rfl,h1,h2,h3,h4⟩:=hrel
  have H1:Hid (1≤k→(Pl.qfc==n)=false):=h1
  have H2:Hid (2≤k→(Pl.qiv==n)=false):=h2
  have H3:Hid (3≤k→(Pl.qdm==n)=false):=h3
  have H4:Hid (4≤k→(Pl.qek==n)=false):=h4
  clear h1 h2 h3 h4
  rcases(show k=0∨k=1∨k=2∨k=3∨k=4 by omega)with rfl | rfl | rfl | rfl | rfl
  ·by_cases hq:([116,105,116,108,101]==n)=true
   ·have HV:Hid (Pl.qci n=n):=qfy hq (.inl rfl)
    go_wp2
    go_ret
    exact⟨qe0 (by rw[HV.out]),rfl⟩
   ·have hq:=Bool.eq_false_iff.2 hq
    have HQ:Hid ((Pl.qfc==n)=false):=hq
    go_wp2
    go_round
    case rel=>exact⟨1,by omega,rfl,fun _=>HQ.out,by omega,by omega,by omega⟩
    case measure=>simp[intOf]
  ·by_cases hq:([116,101,120,116,97,114,101,97]==n)=true
   ·have HV:Hid (Pl.qci n=n):=qfy hq (.inr (.inl rfl))
    go_wp2
    go_ret
    exact⟨qe0 (by rw[HV.out]),rfl⟩
   ·have hq:=Bool.eq_false_iff.2 hq
    have HQ:Hid ((Pl.qiv==n)=false):=hq
    go_wp2
    go_round
    case rel=>exact⟨2,by omega,rfl,fun _=>H1.out (by omega),fun _=>HQ.out,by omega,by omega⟩
    case measure=>simp[intOf]
  ·by_cases hq:([115,99,114,105,112,116]==n)=true
   ·have HV:Hid (Pl.qci n=n):=qfy hq (.inr (.inr (.inl rfl)))
    go_wp2
    go_ret
    exact⟨qe0 (by rw[HV.out]),rfl⟩
   ·have hq:=Bool.eq_false_iff.2 hq
    have HQ:Hid ((Pl.qdm==n)=false):=hq
    go_wp2
    go_round
    case rel=>exact⟨3,by omega,rfl,fun _=>H1.out (by omega),fun _=>H2.out (by omega),fun _=>HQ.out,by omega⟩
    case measure=>simp[intOf]
  ·by_cases hq:([115,116,121,108,101]==n)=true
   ·have HV:Hid (Pl.qci n=n):=qfy hq (.inr (.inr (.inr rfl)))
    go_wp2
    go_ret
    exact⟨qe0 (by rw[HV.out]),rfl⟩
   ·have hq:=Bool.eq_false_iff.2 hq
    have HQ:Hid ((Pl.qek==n)=false):=hq
    go_wp2
    go_round
    case rel=>exact⟨4,by omega,rfl,fun _=>H1.out (by omega),fun _=>H2.out (by omega),fun _=>H3.out (by omega),fun _=>HQ.out⟩
    case measure=>simp[intOf]
  ·have HV:Hid (Pl.qci n=[]):=qtq (H1.out (by omega)) (H2.out (by omega)) (H3.out (by omega)) (H4.out (by omega))
   go_wp2
   go_ret
   exact⟨qe0 (by rw[HV.out]),rfl⟩
theorem qup {n:List UInt8} (h:(Pl.qfc==n)=true):Pl.qac n=⟨19,[],n,0,0,false⟩:=by
 rw[beq_iff_eq]at h; subst h; rfl
theorem quo {n:List UInt8} (h:(Pl.qiv==n)=true):Pl.qac n=⟨19,[],n,0,0,false⟩:=by
 rw[beq_iff_eq]at h; subst h; rfl
theorem qun {n:List UInt8} (h:(Pl.qdm==n)=true):Pl.qac n=⟨20,[],n,0,0,false⟩:=by
 rw[beq_iff_eq]at h; subst h; rfl
theorem qum {n:List UInt8} (h:(Pl.qek==n)=true):Pl.qac n=⟨28,[],n,0,0,false⟩:=by
 rw[beq_iff_eq]at h; subst h; rfl
theorem qzt {n:List UInt8} (h1:(Pl.qfc==n)=false) (h2:(Pl.qiv==n)=false) (h3:(Pl.qdm==n)=false) (h4:(Pl.qek==n)=false):Pl.qac n=⟨1,[],[],0,0,false⟩:=by
 rw[beq_eq_false_iff_ne]at h1 h2 h3 h4
 have:Pl.qhf n=1:=by unfold Pl.qhf; rw[if_neg (Ne.symm h1),if_neg (Ne.symm h2),if_neg (Ne.symm h3),if_neg (Ne.symm h4)]
 unfold Pl.qac; rw[if_pos this]
def qab (x:Pl.Sx):Array Value:=#[.int .u8 (x.st.mode:Int),bs x.st.name,bs x.st.elem,.int .i64 x.st.kind,.int .i64 (x.st.read:Int),.bool x.ma.ref,.bool x.st.esc,.int .i64 x.ma.hex,.int .i64 x.ma.pct,.int .i64 x.ma.far]
def qad (x:Pl.Sx):Value:=.agg (qab x)
def qcw (k:Pl.Mk) (esc:Bool):Array Value:=#[.bool k.ref,.bool esc,.int .i64 k.hex,.int .i64 k.pct,.int .i64 k.far]
def qd4 (k:Pl.Mk) (esc:Bool):Value:=.agg (qcw k esc)
set_option maxRecDepth 100000 in
set_option maxHeartbeats 1600000 in
theorem qxj (n:List UInt8) (w:World) (ht:PTabs w) :
  Calls Tryz.prog 136 #[.string ⟨n.toArray⟩] w fun e w'=>e=.returned (qad ⟨Pl.qac n,Pl.Mk.none⟩)∧w.alloc (.cells (qab ⟨Pl.qac n,Pl.Mk.none⟩) 162)=w':=by
 have ht':=fun o=>ht.kept ((Below.refl _ w).alloc (Nat.le_refl _) o)
 have c0:=fun o=>(qec (ht' o).el 0 _ rfl).1
 have c1:=fun o=>(qec (ht' o).el 1 _ rfl).1
 have c2:=fun o=>(qec (ht' o).el 2 _ rfl).1
 have c3:=fun o=>(qec (ht' o).el 3 _ rfl).1
 have d0:=fun o=>(qec (ht' o).el 0 _ rfl).2
 have d1:=fun o=>(qec (ht' o).el 1 _ rfl).2
 have d2:=fun o=>(qec (ht' o).el 2 _ rfl).2
 have d3:=fun o=>(qec (ht' o).el 3 _ rfl).2
 simp only[bs,Pl.qfc,Pl.qiv,Pl.qdm,Pl.qek,Nat.mul_zero,Nat.reduceMul,Nat.reduceAdd]at c0 c1 c2 c3 d0 d1 d2 d3
 clear ht ht'
 go_enter Tryz.func136,Tryz.ntmps136
 go_wp2
 go_loop [3,4] (fun _ i=>∃ k:Nat,k≤4∧i=.int .i64 k∧(1≤k→(Pl.qfc==n)=false)∧(2≤k→(Pl.qiv==n)=false)∧(3≤k→(Pl.qdm==n)=false)∧(4≤k→(Pl.qek==n)=false)) (fun _ i=>4 - (intOf i).toNat)
 case atStart=>exact⟨0,by omega,rfl,by omega,by omega,by omega,by omega⟩
 case round=>
  obtain⟨k,hk,rfl,h1,h2,h3,h4⟩:=hrel
  have H1:Hid (1≤k→(Pl.qfc==n)=false):=h1
  have H2:Hid (2≤k→(Pl.qiv==n)=false):=h2
  have H3:Hid (3≤k→(Pl.qdm==n)=false):=h3
  have H4:Hid (4≤k→(Pl.qek==n)=false):=h4
  clear h1 h2 h3 h4
  rcases(show k=0∨k=1∨k=2∨k=3∨k=4 by omega)with rfl | rfl | rfl | rfl | rfl
  ·by_cases hq:([116,105,116,108,101]==n)=true
   ·have HV:Hid (Pl.qac n=⟨19,[],n,0,0,false⟩):=qup hq
    go_wp2
    refine qaz Tryz.results136 w.heap.size _ _ Tryz.underlying162 rfl rfl (heap_alloc_new _ _) (by kernel_rfl) rfl ?_
    exact⟨congrArg Ending.returned (by rw[HV.out]; rfl),by rw[HV.out]; rfl⟩
   ·have hq:=Bool.eq_false_iff.2 hq
    have HQ:Hid ((Pl.qfc==n)=false):=hq
    go_wp2
    go_round
    case rel=>exact⟨1,by omega,rfl,fun _=>HQ.out,by omega,by omega,by omega⟩
    case measure=>simp[intOf]
  ·by_cases hq:([116,101,120,116,97,114,101,97]==n)=true
   ·have HV:Hid (Pl.qac n=⟨19,[],n,0,0,false⟩):=quo hq
    go_wp2
    refine qaz Tryz.results136 w.heap.size _ _ Tryz.underlying162 rfl rfl (heap_alloc_new _ _) (by kernel_rfl) rfl ?_
    exact⟨congrArg Ending.returned (by rw[HV.out]; rfl),by rw[HV.out]; rfl⟩
   ·have hq:=Bool.eq_false_iff.2 hq
    have HQ:Hid ((Pl.qiv==n)=false):=hq
    go_wp2
    go_round
    case rel=>exact⟨2,by omega,rfl,fun _=>H1.out (by omega),fun _=>HQ.out,by omega,by omega⟩
    case measure=>simp[intOf]
  ·by_cases hq:([115,99,114,105,112,116]==n)=true
   ·have HV:Hid (Pl.qac n=⟨20,[],n,0,0,false⟩):=qun hq
    go_wp2
    refine qaz Tryz.results136 w.heap.size _ _ Tryz.underlying162 rfl rfl (heap_alloc_new _ _) (by kernel_rfl) rfl ?_
    exact⟨congrArg Ending.returned (by rw[HV.out]; rfl),by rw[HV.out]; rfl⟩
   ·have hq:=Bool.eq_false_iff.2 hq
    have HQ:Hid ((Pl.qdm==n)=false):=hq
    go_wp2
    go_round
    case rel=>exact⟨3,by omega,rfl,fun _=>H1.out (by omega),fun _=>H2.out (by omega),fun _=>HQ.out,by omega⟩
    case measure=>simp[intOf]
  ·by_cases hq:([115,116,121,108,101]==n)=true
   ·have HV:Hid (Pl.qac n=⟨28,[],n,0,0,false⟩):=qum hq
    go_wp2
    refine qaz Tryz.results136 w.heap.size _ _ Tryz.underlying162 rfl rfl (heap_alloc_new _ _) (by kernel_rfl) rfl ?_
    exact⟨congrArg Ending.returned (by rw[HV.out]; rfl),by rw[HV.out]; rfl⟩
   ·have hq:=Bool.eq_false_iff.2 hq
    have HQ:Hid ((Pl.qek==n)=false):=hq
    go_wp2
    go_round
    case rel=>exact⟨4,by omega,rfl,fun _=>H1.out (by omega),fun _=>H2.out (by omega),fun _=>H3.out (by omega),fun _=>HQ.out⟩
    case measure=>simp[intOf]
  ·have HV:Hid (Pl.qac n=⟨1,[],[],0,0,false⟩):=qzt (H1.out (by omega)) (H2.out (by omega)) (H3.out (by omega)) (H4.out (by omega))
   go_wp2
   refine qaz Tryz.results136 w.heap.size _ _ Tryz.underlying162 rfl rfl (heap_alloc_new _ _) (by kernel_rfl) rfl ?_
   exact⟨congrArg Ending.returned (by rw[HV.out]; rfl),by rw[HV.out]; rfl⟩
end Go.Proofs.YtfkhljmiehdgmaaGreatDoor
