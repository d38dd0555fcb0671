/-
  Steps of the proof (texts laid together, blanks left out): PnE, PnG, PnK, PnL.
-/
import Derived.Test.YtfkhljmiehdgmaaGreatDoorTaAW
import Derived.Deep.RegionWith
import Derived.Test.YtfkhljmiehdgmaaGreatDoorTaAF
namespace Go.Proofs.YtfkhljmiehdgmaaGreatDoor
open Go.RowKit
theorem qcd {w:World} {B n k:Nat} {e:TypeId} {v:Value} {xs:List Value} (h:w.ownsRow B e k v n xs):∃ ao cap,v=.slice ao n cap:=by
 rcases h.2 with ⟨h1,h2⟩ | ⟨g,cap,cur,hv,_⟩
 ·exact⟨none,0,by rw[h1,h2]⟩
 ·exact⟨_,cap,hv⟩
theorem qgb {w:World} {B:Nat} {v:Value} {P:List Pl.Pt} (h:w.ownsRow B 229 4 v P.length (qbq P)) {a:Nat} {p:Pl.Pt} (hp:P[a]?=some p):∃ g cap,v=.slice (some ⟨g,0,none⟩) P.length cap∧(w.cell? ⟨g,a*4,none⟩=some (.int .i64 p.kind)∧w.cell? ⟨g,a*4+1,none⟩=some (.int .i64 p.pos)∧w.cell? ⟨g,a*4+2,none⟩=some (.string ⟨p.text.toArray⟩)∧w.cell? ⟨g,a*4+3,none⟩=some (.int .i64 p.mate)):=by
 have ha:=(List.getElem?_eq_some_iff.1 hp).1
 obtain⟨g,cap,rfl,_⟩:=qao h (by omega)
 have hc:=fun j v hv=>(h.cellAt (a*4+j) (by have:=qdz P a p hp j v hv; have:=(List.getElem?_eq_some_iff.1 this).1; rw[qvk]at this; exact this)).trans (qdz P a p hp j v hv)
 exact⟨g,cap,rfl,hc 0 _ rfl,hc 1 _ rfl,hc 2 _ rfl,hc 3 _ rfl⟩
theorem q5h {o:Nat} {l:List Pl.Pt} (h:Pl.Wf o l):∀(i:Nat) (p:Pl.Pt),l[i]?=some p→(p.kind=3∨p.kind=4)→o+i<p.mate∧p.mate<o+l.length:=by
 induction h with
 | nil o=>intro i p hp; simp at hp
 | leaf o q l hk _ ih=>
   intro i p hp h34
   cases i with
   | zero=>simp at hp; subst hp; omega
   | succ i=>
     have:=ih i p (by simpa using hp) h34
     simp only[List.length_cons]; omega
 | sec o q z b l hq hz h1 h2 hb _ ihb ihl=>
   intro i p hp h34
   have e:q::b++z::l=q::(b++z::l):=by simp
   rw[e]at hp ⊢
   simp only[List.length_cons,List.length_append]
   cases i with
   | zero=>simp at hp; subst hp; omega
   | succ i=>
     simp only[List.getElem?_cons_succ]at hp
     rw[List.getElem?_append]at hp
     split at hp
     ·have:=ihb i p hp h34; omega
     ·rename_i hi
      cases hx:i - b.length with
      | zero=>rw[hx]at hp; simp at hp; subst hp; omega
      | succ j=>
        rw[hx]at hp
        have:=ihl j p (by simpa using hp) h34
        omega
theorem qyj:qab Pl.Sx.none=#[.int .u8 0,.string ⟨#[]⟩,.string ⟨#[]⟩,.int .i64 0,.int .i64 0,.bool false,.bool false,.int .i64 0,.int .i64 0,.int .i64 0]:=rfl
set_option maxRecDepth 100000 in
set_option maxHeartbeats 6400000 in
theorem qwl (HB:qgn) (S:List Pl.Src) (hS:SrcsOk S) (k:Nat) (HC:BehC S k) (w:World) (B:Nat) (F:Fix) (vv:Value) (s:Pl.Sr) (e:Pl.En) (h:SeAt w B F S vv s) (ho:Pl.EndsOk S.length s.ends) (hk:257≤s.ends.length+k) (he:Pl.SxFit e.2) (hi:e.1<S.length) (hB:B≤w.heap.size) (ht:TabB B w) :
  Calls Tryz.prog 112 #[.pointer (some ⟨F.g,0,none⟩),qfh e] w fun ed w'=>ed=.returned (qad (Pl.qdd (Pl.behV S k) (Pl.qaj S e.1) ((Pl.qaj S e.1).length+1) 0 s e.2).2)∧SeAt w' B F S vv (Pl.qdd (Pl.behV S k) (Pl.qaj S e.1) ((Pl.qaj S e.1).length+1) 0 s e.2).1∧Cue B F w w':=by
 obtain⟨src,hsrc⟩:∃ src,S[e.1]?=some src:=⟨S[e.1],List.getElem?_eq_getElem hi⟩
 have hP:Pl.qaj S e.1=src.parts:=by unfold Pl.qaj; rw[hsrc]
 rw[hP]
 obtain⟨ao,cap,hv⟩:=qcd (h.src.row e.1 src hsrc)
 have b0:∀ o o',((w.alloc o).alloc o').cell? ⟨F.g,0,none⟩=some (.slice (some ⟨F.bS,0,none⟩) S.length S.length):=fun o o'=>((h.alloc o).alloc o').cell 0 _ rfl
 have b1:∀ o o',((w.alloc o).alloc o').cell? ⟨F.bS,e.1*2+1,none⟩=some (.slice ao src.parts.length cap):=fun o o'=>(((h.alloc o).alloc o').src.slice e.1 src hsrc).trans (by rw[hv])
 have c1:(e.1:Int)<(S.length:Int):=by omega
 generalize hQ:Pl.qdd (Pl.behV S k) src.parts (src.parts.length+1) 0 s e.2=Q
 have HQ0:=(show Hid _ from hQ)
 clear hQ
 rw[qbh]
 unfold qak bs
 have HS:=(show Hid _ from h)
 clear h
 go_enter Tryz.func112,Tryz.ntmps112
 go_wp2_with fail
 go_quiet (fail)
 go_wp2_with fail
 have HW:Hid (Wki w ((((w.alloc (.cells (qak e) 180)).alloc (.cells (qab Pl.Sx.none) 162)).drewN nq).alloc (.cells (qab e.2) 162)) B F S vv s (w.heap.size+1+1) (w.heap.size+1) e.2):=by
  have hb1:Below w.heap.size w (((w.alloc (.cells (qak e) 180)).alloc (.cells (qab Pl.Sx.none) 162)).drewN nq):=qa3 (((Below.refl _ _).alloc (Nat.le_refl _) _).alloc (by simp) _) nq
  have hb2:=hb1.alloc (o:=.cells (qab e.2) 162) (by have:=hb1.size; omega)
  exact⟨HS.out.below hb2,qas _ _ _ (by simp[World.drewN]),(heap_alloc_old _ _ (by simp[World.drewN])).trans (qas (w.alloc _) _ _ (by simp)),by omega,⟨by omega,by omega,hB⟩,Cue.of_below hb2 hB,ht.kept (hb2.mono hB)⟩
 rw[qyj]at HW
 unfold qak qab bs at HW
 obtain⟨G,hG⟩:∃ G,G=w.heap.size+1+1:=⟨_,rfl⟩
 obtain⟨R,hR⟩:∃ R,R=w.heap.size+1:=⟨_,rfl⟩
 rw[← hG,← hR]at HW ⊢
 generalize (World.alloc (World.drewN _ nq) _)=w4 at HW ⊢
 clear b0 b1 hG hR
 go_loopw [7] (fun i wr=>∃(a n:Nat) (s':Pl.Sr) (x':Pl.Sx),i=.int .i64 a∧src.parts.length<a+n∧Hid (Wki w wr B F S vv s' G R x'∧Pl.EndsOk S.length s'.ends∧257≤s'.ends.length+k∧Pl.qrv x'∧Pl.qdd (Pl.behV S k) src.parts n a s' x'=Q)) (fun i _=>src.parts.length - (intOf i).toNat)
 case atStart=>exact⟨0,src.parts.length+1,s,e.2,rfl,by omega,HW.out,ho,hk,.inr he,HQ0.out⟩
 case round=>
  obtain⟨a,n,s',x',rfl,hn,HR⟩:=hrel
  clear HW HQ0 ho hk
  have hat:=HR.out.1.now.at'
  have HNone:=(show Hid _ from fun w=>qqv x' w)
  have q0:=hat.mode
  have q1:=hat.name
  have q2:=hat.elem
  have q3:=hat.kind
  have q4:=hat.read
  have q5:=hat.ref
  have q6:=hat.esc
  have q7:=hat.hex
  have q8:=hat.pct
  have q9:=hat.far
  unfold qad qab bs at HNone
  clear hat
  have exit:∀(w5:World) (ac:Act),Wki w w5 B F S vv s' G R x'→Q=(s',x')→ac.tmps.getD 4 undef=.pointer (some ⟨R,0,none⟩)→ac.defers=[] →
    bodyPost Tryz.prog Tryz.f112 (fun ed w'=>ed=.returned (qad Q.2)∧SeAt w' B F S vv Q.1∧Cue B F w w') .ret ac (qcn w5 R (.int .u8 (x'.st.mode:Int)) (.string ⟨x'.st.name.toArray⟩) (.string ⟨x'.st.elem.toArray⟩) (.int .i64 x'.st.kind) (.int .i64 (x'.st.read:Int)) (.bool x'.ma.ref) (.bool x'.st.esc) (.int .i64 x'.ma.hex) (.int .i64 x'.ma.pct) (.int .i64 x'.ma.far)):=by
   intro w5 ac hw hq h4 hd
   subst hq
   have hs:=hw.res.set x'
   have hfar:=fun k (hk:k≠R)=>qf9 (w:=w5) hk (.int .u8 (x'.st.mode:Int)) (.string ⟨x'.st.name.toArray⟩) (.string ⟨x'.st.elem.toArray⟩) (.int .i64 x'.st.kind) (.int .i64 (x'.st.read:Int)) (.bool x'.ma.ref) (.bool x'.st.esc) (.int .i64 x'.ma.hex) (.int .i64 x'.ma.pct) (.int .i64 x'.ma.far)
   have hbel:Below R w5 (qcn w5 R (.int .u8 (x'.st.mode:Int)) (.string ⟨x'.st.name.toArray⟩) (.string ⟨x'.st.elem.toArray⟩) (.int .i64 x'.st.kind) (.int .i64 (x'.st.read:Int)) (.bool x'.ma.ref) (.bool x'.st.esc) (.int .i64 x'.ma.hex) (.int .i64 x'.ma.pct) (.int .i64 x'.ma.far)):=qaw (Below.refl _ _) (Nat.le_refl _) _ _ _ _ _ _ _ _ _ _
   generalize qcn w5 R _ _ _ _ _ _ _ _ _ _=w6 at hs hfar hbel ⊢
   refine bodyPost_ret (qbn Tryz.results112 _ _ R _ _ h4 (qaa hs) Tryz.underlying162 rfl (by kernel_rfl)) hd ⟨rfl,hw.se.far hw.res hfar,⟨hw.cue.below.trans (hbel.mono (Nat.le_trans hw.old.2.2 hw.old.2.1)),fun k hk h1 h2=>(hfar k (by have:=hw.old.2.1; omega)).trans (hw.cue.keep k hk h1 h2)⟩⟩
  have HX:=(show Hid _ from exit)
  clear exit
  by_cases hlt:a<src.parts.length
  rotate_left
  ·have c1:¬(a:Int)<(src.parts.length:Int):=by omega
   have hq:Q=(s',x'):=by
    have:=HR.out.2.2.2.2
    rw[← this]
    cases n with
    | zero=>rfl
    | succ n=>
      have hp:src.parts[a]?=none:=List.getElem?_eq_none (by omega)
      unfold Pl.qdd
      rw[hp]
      split<;>rfl
   have HQ:=(show Hid _ from hq)
   have hs:=HR.out.1.res
   have r0:=hs.at'.mode
   have r1:=hs.at'.name
   have r2:=hs.at'.elem
   have r3:=hs.at'.kind
   have r4:=hs.at'.read
   have r5:=hs.at'.ref
   have r6:=hs.at'.esc
   have r7:=hs.at'.hex
   have r8:=hs.at'.pct
   have r9:=hs.at'.far
   have f0:=hs.slot.thaw 0
   have f1:=hs.slot.thaw 1
   have f2:=hs.slot.thaw 2
   have f3:=hs.slot.thaw 3
   have f4:=hs.slot.thaw 4
   have f5:=hs.slot.thaw 5
   have f6:=hs.slot.thaw 6
   have f7:=hs.slot.thaw 7
   have f8:=hs.slot.thaw 8
   have f9:=hs.slot.thaw 9
   clear hlt hs HNone hq
   go_wp2_with fail
   unfold qcn at HX
   refine HX.out wr _ HR.out.1 HQ.out ?_ ?_
   ·rfl
   ·rfl
  have c1:(a:Int)<(src.parts.length:Int):=by omega
  by_cases hnn:x'.isNone=true
  ·have hb:(x'.st.mode==0)=true:=hnn
   have hq:Q=(s',x'):=by
    have:=HR.out.2.2.2.2
    rw[← this]
    obtain⟨n,rfl⟩:∃ m,n=m+1:=⟨n - 1,by omega⟩
    unfold Pl.qdd
    rw[if_pos hnn]
   have HQ:=(show Hid _ from hq)
   have hs:=fun o=>HR.out.1.res.below ((Below.refl _ _).alloc (Nat.le_refl _) o)
   have hn2:=fun o=>(HR.out.1.now.below ((Below.refl _ _).alloc (Nat.le_refl _) o)).at'
   have r0:=fun o=>(hs o).at'.mode
   have r1:=fun o=>(hs o).at'.name
   have r2:=fun o=>(hs o).at'.elem
   have r3:=fun o=>(hs o).at'.kind
   have r4:=fun o=>(hs o).at'.read
   have r5:=fun o=>(hs o).at'.ref
   have r6:=fun o=>(hs o).at'.esc
   have r7:=fun o=>(hs o).at'.hex
   have r8:=fun o=>(hs o).at'.pct
   have r9:=fun o=>(hs o).at'.far
   have g0:=fun o=>(hn2 o).mode
   have g1:=fun o=>(hn2 o).name
   have g2:=fun o=>(hn2 o).elem
   have g3:=fun o=>(hn2 o).kind
   have g4:=fun o=>(hn2 o).read
   have g5:=fun o=>(hn2 o).ref
   have g6:=fun o=>(hn2 o).esc
   have g7:=fun o=>(hn2 o).hex
   have g8:=fun o=>(hn2 o).pct
   have g9:=fun o=>(hn2 o).far
   have f0:=fun o=>(hs o).slot.thaw 0
   have f1:=fun o=>(hs o).slot.thaw 1
   have f2:=fun o=>(hs o).slot.thaw 2
   have f3:=fun o=>(hs o).slot.thaw 3
   have f4:=fun o=>(hs o).slot.thaw 4
   have f5:=fun o=>(hs o).slot.thaw 5
   have f6:=fun o=>(hs o).slot.thaw 6
   have f7:=fun o=>(hs o).slot.thaw 7
   have f8:=fun o=>(hs o).slot.thaw 8
   have f9:=fun o=>(hs o).slot.thaw 9
   rw[hb]at HNone
   clear hlt hs hn2 hq hnn hb
   go_wp2_with (go_at_call 111; refine(HNone.out _).mono ?_; rintro e w' ⟨rfl,rfl⟩)
   unfold qcn at HX
   refine HX.out _ _ (HR.out.1.alloc _) HQ.out ?_ ?_
   ·rfl
   ·rfl
  have hfit:=Pl.qn5 HR.out.2.2.2.1 hnn
  have hb:(x'.st.mode==0)=false:=by cases q:(x'.st.mode==0)with | true=>exact absurd q hnn | false=>rfl
  rw[hb]at HNone
  obtain⟨p,hp⟩:∃ p,src.parts[a]?=some p:=⟨src.parts[a],List.getElem?_eq_getElem hlt⟩
  obtain⟨m,rfl⟩:∃ m,n=m+1:=⟨n - 1,by omega⟩
  have hstep:=HR.out.2.2.2.2
  unfold Pl.qdd at hstep
  rw[if_neg hnn,hp]at hstep
  simp only at hstep
  have hmem:p∈src.parts:=List.mem_of_getElem? hp
  have hpm:=(hS.parts e.1 src hsrc).2 p hmem
  have hrow:∀ o,(wr.alloc o).ownsRow B 229 4 (.slice ao src.parts.length cap) src.parts.length (qbq src.parts):=fun o=>by
   have:=(HR.out.1.se.alloc o).src.row e.1 src hsrc
   rw[hv]at this
   exact this
  obtain⟨g,cap',hg,_⟩:=qgb (hrow (.cells #[] 0)) hp
  injection hg with hg1 hg2 hg3
  subst hg1 hg3
  have d0:∀ o,(wr.alloc o).cell? ⟨g,a*4,none⟩=some (.int .i64 p.kind):=fun o=>by
   obtain⟨g',_,e1,e2,_⟩:=qgb (hrow o) hp
   injection e1 with e1; injection e1 with e1; injection e1 with e1; subst e1; exact e2
  have d1:∀ o,(wr.alloc o).cell? ⟨g,a*4+1,none⟩=some (.int .i64 p.pos):=fun o=>by
   obtain⟨g',_,e1,_,e2,_⟩:=qgb (hrow o) hp
   injection e1 with e1; injection e1 with e1; injection e1 with e1; subst e1; exact e2
  have d2:∀ o,(wr.alloc o).cell? ⟨g,a*4+2,none⟩=some (.string ⟨p.text.toArray⟩):=fun o=>by
   obtain⟨g',_,e1,_,_,e2,_⟩:=qgb (hrow o) hp
   injection e1 with e1; injection e1 with e1; injection e1 with e1; subst e1; exact e2
  have d3:∀ o,(wr.alloc o).cell? ⟨g,a*4+3,none⟩=some (.int .i64 p.mate):=fun o=>by
   obtain⟨g',_,e1,_,_,_,e2⟩:=qgb (hrow o) hp
   injection e1 with e1; injection e1 with e1; injection e1 with e1; subst e1; exact e2
  have HS1:=(show Hid _ from hstep)
  have HP:=(show Hid _ from hpm)
  clear hstep hrow hv hmem hnn hb HX hpm
  have c2:(a:Int)≤2000:=by have:=(hS.parts e.1 src hsrc).1; omega
  by_cases k3:p.kind=3∨p.kind=4
  ·have HS2:Hid (Pl.qdd (Pl.behV S k) src.parts m (p.mate+1) s' x'=Q):=by
    have:=HS1.out
    rw[if_neg (by omega),if_neg (by omega),if_pos k3]at this
    exact this
   have hmt:=q5h (hS.wf e.1 src hsrc) a p hp k3
   have HMT:=(show Hid _ from hmt)
   have c3:(p.mate:Int)≤2000:=by have:=HP.out.2.2; omega
   clear HS1 hmt
   rcases k3 with k3 | k3
   all_goals
    rw[k3]at d0
    go_wp2_with (go_at_call 111; refine(HNone.out _).mono ?_; rintro e w' ⟨rfl,rfl⟩)
    go_roundw
    case rel=>exact⟨p.mate+1,m,s',x',by go_num,by have:=HMT.out.1; omega,(HR.out.1.alloc _).alloc _,HR.out.2.1,HR.out.2.2.1,HR.out.2.2.2.1,HS2.out⟩
    case measure=>have:=HMT.out; simp[intOf]; omega
  have hn3:=fun o o'=>(((HR.out.1.alloc o).alloc o').now).at'
  have g0:=fun o o'=>(hn3 o o').mode
  have g1:=fun o o'=>(hn3 o o').name
  have g2:=fun o o'=>(hn3 o o').elem
  have g3:=fun o o'=>(hn3 o o').kind
  have g4:=fun o o'=>(hn3 o o').read
  have g5:=fun o o'=>(hn3 o o').ref
  have g6:=fun o o'=>(hn3 o o').esc
  have g7:=fun o o'=>(hn3 o o').hex
  have g8:=fun o o'=>(hn3 o o').pct
  have g9:=fun o o'=>(hn3 o o').far
  clear hn3
  have k3a:((p.kind:Int)==3)=false:=by rw[beq_eq_false_iff_ne]; omega
  have k3b:((p.kind:Int)==4)=false:=by rw[beq_eq_false_iff_ne]; omega
  by_cases k2:p.kind=2
  ·have HS2:Hid (Pl.qdd (Pl.behV S k) src.parts m (a+1) s' x'.behindHole=Q):=by
    have:=HS1.out
    rw[if_neg (by omega),if_pos k2]at this
    exact this
   have HF:=(show Hid _ from Pl.qmd hfit)
   rw[k2]at d0
   have hH:=fun w=>qit x' w
   have hT:=fun(w5:World) (hw:Wki w w5 B F S vv s' G R x')=>hw.set x'.behindHole
   generalize x'.behindHole=y at hH hT HF HS2
   unfold qad qab bs at hH
   unfold qcn at hT
   have HH:=(show Hid _ from hH)
   have HT:=(show Hid _ from hT)
   clear HS1 k3 k3a k3b k2 hfit hH hT
   go_wp2_with (first
    | (go_at_call 111; refine(HNone.out _).mono ?_; rintro e w' ⟨rfl,rfl⟩)
    | (go_at_call 109; refine(HH.out _).mono ?_; rintro e w2 ⟨rfl,hb2⟩; have HW2:=(show Hid _ from((HR.out.1.alloc _).alloc _).below hb2); clear hb2
       have hs2:=HW2.out.now
       have p0:=hs2.at'.mode
       have p1:=hs2.at'.name
       have p2:=hs2.at'.elem
       have p3:=hs2.at'.kind
       have p4:=hs2.at'.read
       have p5:=hs2.at'.ref
       have p6:=hs2.at'.esc
       have p7:=hs2.at'.hex
       have p8:=hs2.at'.pct
       have p9:=hs2.at'.far
       have z0:=hs2.slot.thaw 0
       have z1:=hs2.slot.thaw 1
       have z2:=hs2.slot.thaw 2
       have z3:=hs2.slot.thaw 3
       have z4:=hs2.slot.thaw 4
       have z5:=hs2.slot.thaw 5
       have z6:=hs2.slot.thaw 6
       have z7:=hs2.slot.thaw 7
       have z8:=hs2.slot.thaw 8
       have z9:=hs2.slot.thaw 9
       clear hs2))
   go_roundw
   case rel=>exact⟨a+1,m,s',y,by go_num,by omega,HT.out _ HW2.out,HR.out.2.1,HR.out.2.2.1,.inr HF.out,HS2.out⟩
   case measure=>simp[intOf]; omega
  have k2a:((p.kind:Int)==2)=false:=by rw[beq_eq_false_iff_ne]; omega
  by_cases k6:p.kind=6
  ·have HS2:Hid (Pl.qdd (Pl.behV S k) src.parts m (a+1) (Pl.behV S k s' p.text x').1 (Pl.behV S k s' p.text x').2=Q):=by
    have:=HS1.out
    rw[if_neg (by omega),if_neg (by omega),if_neg (by omega),if_pos k6]at this
    exact this
   have hok:=Pl.qiu S k s'.ends.length HR.out.2.2.1 s' p.text x' HR.out.2.1 (Nat.le_refl _) hfit
   rw[k6]at d0
   have hH:=fun(w5:World) (hw:Wki w w5 B F S vv s' G R x')=>HC w5 B F vv s' p.text x' hw.se HR.out.2.1 HR.out.2.2.1 hfit HP.out.1 hw.tabs
   generalize Pl.behV S k s' p.text x'=r at hH hok HS2
   obtain⟨s2,y⟩:=r
   simp only at hH hok HS2
   have hT:=fun(w5:World) (hw:Wki w w5 B F S vv s2 G R x')=>hw.set y
   unfold qad qab bs at hH
   unfold qcn at hT
   have HH:=(show Hid _ from hH)
   have HT:=(show Hid _ from hT)
   have HOK:=(show Hid _ from hok)
   clear HS1 k3 k3a k3b k2 k2a k6 hfit hH hT hok
   go_wp2_with (first
    | (go_at_call 111; refine(HNone.out _).mono ?_; rintro e w' ⟨rfl,rfl⟩)
    | (go_at_call 156; refine(HH.out _ ((HR.out.1.alloc _).alloc _)).mono ?_; rintro e w2 ⟨rfl,hse,hcu⟩; have HW2:=(show Hid _ from((HR.out.1.alloc _).alloc _).turn hse hcu); clear hse hcu
       have hs2:=HW2.out.now
       have p0:=hs2.at'.mode
       have p1:=hs2.at'.name
       have p2:=hs2.at'.elem
       have p3:=hs2.at'.kind
       have p4:=hs2.at'.read
       have p5:=hs2.at'.ref
       have p6:=hs2.at'.esc
       have p7:=hs2.at'.hex
       have p8:=hs2.at'.pct
       have p9:=hs2.at'.far
       have z0:=hs2.slot.thaw 0
       have z1:=hs2.slot.thaw 1
       have z2:=hs2.slot.thaw 2
       have z3:=hs2.slot.thaw 3
       have z4:=hs2.slot.thaw 4
       have z5:=hs2.slot.thaw 5
       have z6:=hs2.slot.thaw 6
       have z7:=hs2.slot.thaw 7
       have z8:=hs2.slot.thaw 8
       have z9:=hs2.slot.thaw 9
       clear hs2))
   go_roundw
   case rel=>exact⟨a+1,m,s2,y,by go_num,by omega,HT.out _ HW2.out,HOK.out.1.ok,Nat.le_trans HR.out.2.2.1 (Nat.add_le_add_right HOK.out.1.more k),HOK.out.2,HS2.out⟩
   case measure=>simp[intOf]; omega
  have k6a:((p.kind:Int)==6)=false:=by rw[beq_eq_false_iff_ne]; omega
  by_cases k1:p.kind=1
  rotate_left
  ·have k1a:((p.kind:Int)==1)=false:=by rw[beq_eq_false_iff_ne]; omega
   have HS2:Hid (Pl.qdd (Pl.behV S k) src.parts m (a+1) s' x'=Q):=by
    have:=HS1.out
    rw[if_neg (by omega),if_neg (by omega),if_neg (by omega),if_neg (by omega)]at this
    exact this
   clear HS1 k3 k2 k6 k1 hfit
   generalize (p.kind:Int)=K at d0 k3a k3b k2a k6a k1a
   go_wp2_with (go_at_call 111; refine(HNone.out _).mono ?_; rintro e w' ⟨rfl,rfl⟩)
   go_roundw
   case rel=>exact⟨a+1,m,s',x',by go_num,by omega,(HR.out.1.alloc _).alloc _,HR.out.2.1,HR.out.2.2.1,HR.out.2.2.2.1,HS2.out⟩
   case measure=>simp[intOf]; omega
  have HS2:Hid (Pl.qdd (Pl.behV S k) src.parts m (a+1) s' (Pl.qau x' p.text)=Q):=by
   have:=HS1.out
   rw[if_pos k1]at this
   exact this
  generalize wr=wo at *
  clear wr
  obtain⟨T,hT⟩:∃ T:ByteArray,T=⟨p.text.toArray⟩:=⟨_,rfl⟩
  have hTl:T.data.toList=p.text:=by rw[hT]
  have hTs:(T.size:Int)≤2000:=by have:=HP.out.1; rw[← hTl]at this; simp at this; omega
  rw[k1]at d0
  rw[← hT]at d2
  rw[← hTl]at HS2
  clear hTl hT HS1 k3 k3a k3b k2 k2a k6 k6a k1
  have HFit:=(show Hid _ from hfit)
  clear hfit
  go_wp2_with (go_at_call 111; refine(HNone.out _).mono ?_; rintro e w' ⟨rfl,rfl⟩)
  clear g0 g1 g2 g3 g4 g5 g6 g7 g8 g9 q0 q1 q2 q3 q4 q5 q6 q7 q8 q9 d0 d1 d2 d3 HNone
  go_hide hQ
  have HQ:=(show Hid _ from hQ)
  clear hQ
  go_loopw [43,9] (fun i _ wr=>∃ j:Nat,j≤T.size∧i=.int .i64 j∧Hid (Wki w wr B F S vv s' G R (Pl.qau x' (T.data.toList.take j))∧wr.heap[wo.heap.size+1]?=some (.cells #[.int .i64 1,.int .i64 p.pos,.string T,.int .i64 p.mate] 229 (0,0)))) (fun i _ _=>T.size - (intOf i).toNat)
  case atStart=>exact⟨0,Nat.zero_le _,rfl,(HR.out.1.alloc _).alloc _,qas (wo.alloc _) _ _ (by simp)⟩
  case round=>
   obtain⟨j,hj,rfl,HI⟩:=hrel
   by_cases hjl:j<T.size
   rotate_left
   ·have hjt:j=T.size:=by omega
    have c5:¬(j:Int)<(T.size:Int):=by omega
    have HX2:Hid (Wki w wr B F S vv s' G R (Pl.qau x' T.data.toList)):=by
     have:=HI.out.1
     rw[hjt,Pl.qkc T T.size (by omega)]at this
     exact this
    clear hjt
    go_wp2_with fail
    rw[← HQ.out]
    go_wp2_with fail
    go_roundw
    case rel=>exact⟨a+1,m,s',Pl.qau x' T.data.toList,by go_num,by omega,HX2.out,HR.out.2.1,HR.out.2.2.1,.inr (Pl.qi3 _ _ HFit.out),HS2.out⟩
    case measure=>simp[intOf]; omega
   ·have c5:(j:Int)<(T.size:Int):=by omega
    have hfj:=Pl.qi3 (T.data.toList.take j) _ HFit.out
    have hB1:=fun w1 h1=>HB (Pl.qau x' (T.data.toList.take j)) T[j] w1 h1 hfj.ok
    have hTT:=fun(w5:World) (hw:Wki w w5 B F S vv s' G R (Pl.qau x' (T.data.toList.take j)))=>hw.set ((Pl.qau x' (T.data.toList.take j)).behind T[j])
    have hnx:Pl.qau x' (T.data.toList.take (j+1))=(Pl.qau x' (T.data.toList.take j)).behind T[j]:=by rw[Pl.qg8 T j hjl,Pl.qjm]
    have hat:=HI.out.1.now.at'
    have ht1:=HI.out.1.tabs.1
    have t2:wr.cell? ⟨wo.heap.size+1,2,none⟩=some (.string T):=qaa HI.out.2 2 _ rfl
    rw[← hnx]at hB1 hTT
    obtain⟨Y,hY⟩:∃ Y,Y=Pl.qau x' (T.data.toList.take (j+1)):=⟨_,rfl⟩
    rw[← hY]at hB1 hTT
    have HY:=(show Hid _ from hY)
    clear hY
    have hGlt:=HR.out.1.now.lt
    generalize Pl.qau x' (T.data.toList.take j)=X at *
    have q0:=hat.mode
    have q1:=hat.name
    have q2:=hat.elem
    have q3:=hat.kind
    have q4:=hat.read
    have q5:=hat.ref
    have q6:=hat.esc
    have q7:=hat.hex
    have q8:=hat.pct
    have q9:=hat.far
    unfold qad qab bs at hB1
    unfold qcn at hTT
    have HB1:=(show Hid _ from hB1)
    have HTT:=(show Hid _ from hTT)
    clear hB1 hTT hat hfj hnx
    go_wp2_with fail
    first | go_region_with (first
     | (go_at_call 63; refine(HB1.out _ ht1.drew).mono ?_; rintro e w2 ⟨rfl,hb2⟩
        have HW2:=(show Hid _ from(HI.out.1.drewN 1).below hb2)
        have HP2:=(show Hid _ from(hb2.block _ (Array.getElem?_eq_some_iff.1 HI.out.2).1).trans HI.out.2)
        have hs2:=HW2.out.now
        have p0:=hs2.at'.mode
        have p1:=hs2.at'.name
        have p2:=hs2.at'.elem
        have p3:=hs2.at'.kind
        have p4:=hs2.at'.read
        have p5:=hs2.at'.ref
        have p6:=hs2.at'.esc
        have p7:=hs2.at'.hex
        have p8:=hs2.at'.pct
        have p9:=hs2.at'.far
        have z0:=hs2.slot.thaw 0
        have z1:=hs2.slot.thaw 1
        have z2:=hs2.slot.thaw 2
        have z3:=hs2.slot.thaw 3
        have z4:=hs2.slot.thaw 4
        have z5:=hs2.slot.thaw 5
        have z6:=hs2.slot.thaw 6
        have z7:=hs2.slot.thaw 7
        have z8:=hs2.slot.thaw 8
        have z9:=hs2.slot.thaw 9
        clear hs2 hb2 q0 q1 q2 q3 q4 q5 q6 q7 q8 q9)) | fail
    all_goals
     go_wp2_with fail
     go_roundw
     case rel=>exact⟨j+1,by omega,by go_num,by rw[← HY.out]; exact⟨HTT.out _ HW2.out,(qf9 (by omega) _ _ _ _ _ _ _ _ _ _).trans HP2.out⟩⟩
     case measure=>simp[intOf]; omega
theorem SeAt.obj {w:World} {B:Nat} {F:Fix} {S:List Pl.Src} {vv:Value} {s:Pl.Sr} (h:SeAt w B F S vv s):∃ es clock,w.heap[F.be]?=some (.map es clock)∧es.size=s.ends.length:=by
 obtain⟨es,c,h1,h2⟩:=h.ends
 refine⟨es,c,h1,?_⟩
 have:=congrArg List.length h2
 simpa [ql4] using this
theorem q6i {w:World} {b:Nat} {es:Array MapEntry} {clock:Nat} (h:w.heap[b]?=some (.map es clock)):(Builtin.len_ #[175] 3 #[.map (some b)]).run Tryz.prog w=.ok (.int .i64 (es.size:Nat)) w:=by
 unfold Builtin.len_
 simp[go_sem,run_underlying Tryz.underlying175,Go.MapKept.run_getObj_map h,Result.andThen]
theorem SeAt.len {w:World} {B:Nat} {F:Fix} {S:List Pl.Src} {vv:Value} {s:Pl.Sr} (h:SeAt w B F S vv s):(Builtin.len_ #[175] 3 #[.map (some F.be)]).run Tryz.prog w=.ok (.int .i64 (s.ends.length:Nat)) w:=by
 obtain⟨es,c,h1,h2⟩:=h.obj
 rw[← h2]
 exact q6i h1
def qly (w:World) (g:Nat) (a b c d:Value):World:=(((w.setCell ⟨g,5,none⟩ a).setCell ⟨g,6,none⟩ b).setCell ⟨g,7,none⟩ c).setCell ⟨g,8,none⟩ d
theorem q0i {w:World} {g k:Nat} (h:k≠g) (a b c d:Value):(qly w g a b c d).heap[k]?=w.heap[k]?:=by
 have e:∀(w:World) (j:Nat) (v:Value),(w.setCell ⟨g,j,none⟩ v).heap[k]?=w.heap[k]?:=fun w j v=>Below.heap_setCell _ _ _ _ h
 unfold qly
 rw[e,e,e,e]
theorem qu8 {B:Nat} {a w:World} {g:Nat} (h:Below B a w) (hg:B≤g) (x y z u:Value):Below B a (qly w g x y z u):=
 (((h.setCell (p:=⟨g,5,none⟩) hg x).setCell (p:=⟨g,6,none⟩) hg y).setCell (p:=⟨g,7,none⟩) hg z).setCell (p:=⟨g,8,none⟩) hg u
theorem SeAt.fault {w:World} {B:Nat} {F:Fix} {S:List Pl.Src} {vv:Value} {s:Pl.Sr} (h:SeAt w B F S vv s) (f:Pl.Ft):SeAt (qly w F.g (.int .i64 f.code) (.int .i64 f.kind) (.string ⟨f.place.toArray⟩) (.int .i64 f.pos)) B F S vv { s with fault:=f }∧Cue B F w (qly w F.g (.int .i64 f.code) (.int .i64 f.kind) (.string ⟨f.place.toArray⟩) (.int .i64 f.pos)):=by
 have hset:=fun k (hk:k≠F.g)=>q0i (w:=w) hk (.int .i64 f.code) (.int .i64 f.kind) (.string ⟨f.place.toArray⟩) (.int .i64 f.pos)
 have hbl:(qly w F.g (.int .i64 f.code) (.int .i64 f.kind) (.string ⟨f.place.toArray⟩) (.int .i64 f.pos)).heap[F.g]?=some (.cells (qjn F S.length vv f) 178 (0,0)):=
  qgq (t:=178) [.int .i64 f.code,.int .i64 f.kind,.string ⟨f.place.toArray⟩,.int .i64 f.pos] w 5 [.slice (some ⟨F.bS,0,none⟩) S.length S.length,.map (some F.bp),.map (some F.be),.map (some F.bn),vv] [.int .i64 s.fault.code,.int .i64 s.fault.kind,bs s.fault.place,.int .i64 s.fault.pos] (by have:=h.blk; unfold qjn at this; simpa using this) rfl rfl
 have hb:=qu8 (Below.refl B w) h.le.1 (.int .i64 f.code) (.int .i64 f.kind) (.string ⟨f.place.toArray⟩) (.int .i64 f.pos)
 generalize qly w F.g _ _ _ _=w' at hset hbl hb ⊢
 refine⟨⟨hbl,h.srcKept fun k _ h1 _=>hset k h1,h.places.heap (hset _ (qai h.blk h.places).symm),h.ends.heap (hset _ h.apart.1.symm),h.le,h.apart⟩,hb,fun k _ h1 _=>hset k h1⟩
end Go.Proofs.YtfkhljmiehdgmaaGreatDoor
namespace Go.Proofs.YtfkhljmiehdgmaaGreatDoor.Pl
def stk:List Pt→List Nat→List Nat
 | [],st=>st
 | p::l,st=>if p.kind=3∨p.kind=4 then stk l (p.mate::st) else if p.kind=5 then stk l st.tail else stk l st
theorem qe8 (p:Pt) (l:List Pt) (st:List Nat):stk (p::l) st=if p.kind=3∨p.kind=4 then stk l (p.mate::st) else if p.kind=5 then stk l st.tail else stk l st:=rfl
theorem qf1 (l m:List Pt):∀ st,stk (l++m) st=stk m (stk l st):=by
 induction l with
 | nil=>intro st; rfl
 | cons p l ih=>
   intro st
   rw[List.cons_append,qe8,qe8]
   split
   ·exact ih _
   ·split
    ·exact ih _
    ·exact ih _
theorem q7h {o:Nat} {l:List Pt} (h:Wf o l):(∀ st,stk l st=st)∧∀ i,i≤l.length→∀ st,∃ ex,stk (l.take i) st=ex++st∧(∀ m∈ex,o+i≤m∧m<o+l.length)∧∀ m tl,ex=m::tl→stk (l.take (m - o)) st=ex++st:=by
 induction h with
 | nil o=>exact⟨fun st=>rfl,fun i hi st=>⟨[],by simp[stk],fun m hm=>(by cases hm),fun m tl e=>(by cases e)⟩⟩
 | leaf o p l hk _ ih=>
   have hs:∀ l st,stk (p::l) st=stk l st:=fun l st=>by
    rw[qe8,if_neg (by omega),if_neg (by omega)]
   refine⟨fun st=>by rw[hs]; exact ih.1 st,fun i hi st=>?_⟩
   cases i with
   | zero=>exact⟨[],rfl,fun m hm=>(by cases hm),fun m tl e=>(by cases e)⟩
   | succ i=>
     obtain⟨ex,h1,h2,h3⟩:=ih.2 i (by simpa using hi) st
     refine⟨ex,by rw[List.take_succ_cons,hs]; exact h1,fun m hm=>?_,fun m tl e=>?_⟩
     ·have:=h2 m hm
      simp only[List.length_cons]; omega
     ·have hm:=h2 m (by rw[e]; simp)
      rw[show m - o=(m - (o+1))+1 by omega,List.take_succ_cons,hs]
      exact h3 m tl e
 | sec o p q b l hp hq hm1 hm2 hb _ ihb ihl=>
   have e:p::b++q::l=p::(b++q::l):=by simp
   have hs:∀ l st,stk (p::l) st=stk l (p.mate::st):=fun l st=>by
    rw[qe8,if_pos hp]
   have hsq:∀ l st,stk (q::l) st=stk l st.tail:=fun l st=>by
    rw[qe8,if_neg (by omega),if_pos hq]
   rw[e]
   refine⟨fun st=>?_,fun i hi st=>?_⟩
   ·rw[hs,qf1,ihb.1,hsq]
    exact ihl.1 st
   ·cases i with
    | zero=>exact⟨[],rfl,fun m hm=>(by cases hm),fun m tl e=>(by cases e)⟩
    | succ j=>
      simp only[List.length_cons,List.length_append]at hi ⊢
      rw[List.take_succ_cons,hs]
      by_cases hj:j≤b.length
      ·rw[List.take_append_of_le_length hj]
       obtain⟨ex,h1,h2,h3⟩:=ihb.2 j hj (p.mate::st)
       refine⟨ex++[p.mate],by rw[h1]; simp,fun m hm=>?_,fun m tl e2=>?_⟩
       ·simp only[List.mem_append,List.mem_singleton]at hm
        rcases hm with hm | rfl
        ·have:=h2 m hm; omega
        ·omega
       ·cases ex with
        | nil=>
          simp only[List.nil_append,List.cons.injEq]at e2
          obtain⟨rfl,_⟩:=e2
          rw[show p.mate - o=b.length+1 by omega,List.take_succ_cons,hs,List.take_left,ihb.1]
          simp
        | cons m' tl'=>
          simp only[List.cons_append,List.cons.injEq]at e2
          obtain⟨rfl,_⟩:=e2
          have hm:=h2 m' (by simp)
          rw[show m' - o=(m' - (o+1))+1 by omega,List.take_succ_cons,hs,List.take_append_of_le_length (by omega),h3 m' tl' rfl]
          simp
      ·obtain⟨t,rfl⟩:∃ t,j=b.length+1+t:=⟨j - (b.length+1),by omega⟩
       have ht:(b++q::l).take (b.length+1+t)=b++q::l.take t:=by
        rw[List.take_append]
        rw[List.take_of_length_le (by omega),show b.length+1+t - b.length=t+1 by omega,List.take_succ_cons]
       rw[ht,qf1,ihb.1,hsq]
       simp only[List.tail_cons]
       obtain⟨ex,h1,h2,h3⟩:=ihl.2 t (by omega) st
       refine⟨ex,h1,fun m hm=>?_,fun m tl e2=>?_⟩
       ·have:=h2 m hm; omega
       ·have hm:=h2 m (by rw[e2]; simp)
        obtain⟨u,hu⟩:∃ u,m - o=(b.length+1+u)+1:=⟨m - o - (b.length+2),by omega⟩
        have ht2:(b++q::l).take (b.length+1+u)=b++q::l.take u:=by
         rw[List.take_append]
         rw[List.take_of_length_le (by omega),show b.length+1+u - b.length=u+1 by omega,List.take_succ_cons]
        rw[hu,List.take_succ_cons,hs,ht2,qf1,ihb.1,hsq]
        simp only[List.tail_cons]
        have:=h3 m tl e2
        rw[show m - (o+b.length+2)=u by omega]at this
        exact this
theorem q5w (l:List Pt):∀ st,(stk l st).length≤l.length+st.length:=by
 induction l with
 | nil=>intro st; simp[stk]
 | cons p l ih=>
   intro st
   rw[qe8]
   split
   ·have:=ih (p.mate::st); simp only[List.length_cons]at this ⊢; omega
   ·split
    ·have:=ih st.tail; rw[List.length_tail]at this; simp only[List.length_cons]; omega
    ·have:=ih st; simp only[List.length_cons]; omega
theorem q4k (l m:List Pt):∀ st,deep (l++m) st.length=true→deep m (stk l st).length=true:=by
 induction l with
 | nil=>intro st h; exact h
 | cons p l ih=>
   intro st h
   have h:deep (p::(l++m)) st.length=true:=h
   unfold deep at h
   rw[qe8]
   by_cases h3:p.kind=3∨p.kind=4
   ·rw[if_pos h3]at h ⊢
    exact ih (p.mate::st) (by simpa using h)
   rw[if_neg h3]at h ⊢
   by_cases h5:p.kind=5
   ·rw[if_pos h5]at h ⊢
    simp only[ne_eq,Bool.and_eq_true,decide_eq_true_eq]at h
    exact ih st.tail (by simpa using h.2)
   ·rw[if_neg h5]at h ⊢
    exact ih st h
theorem q2r {o:Nat} {l:List Pt} (h:Wf o l):∀(i:Nat) (p:Pt),l[i]?=some p→p.kind=5→p.mate<o+l.length∧o≤p.mate:=by
 induction h with
 | nil o=>intro i p hp; simp at hp
 | leaf o q l hk _ ih=>
   intro i p hp h5
   cases i with
   | zero=>simp at hp; subst hp; omega
   | succ i=>
     have:=ih i p (by simpa using hp) h5
     simp only[List.length_cons]; omega
 | sec o q z b l hq hz h1 h2 hb _ ihb ihl=>
   intro i p hp h5
   have e:q::b++z::l=q::(b++z::l):=by simp
   rw[e]at hp ⊢
   simp only[List.length_cons,List.length_append]
   cases i with
   | zero=>simp at hp; subst hp; omega
   | succ i=>
     simp only[List.getElem?_cons_succ]at hp
     rw[List.getElem?_append]at hp
     split at hp
     ·have:=ihb i p hp h5; omega
     ·rename_i hi
      cases hx:i - b.length with
      | zero=>rw[hx]at hp; simp at hp; subst hp; omega
      | succ j=>
        rw[hx]at hp
        have:=ihl j p (by simpa using hp) h5
        omega
end Go.Proofs.YtfkhljmiehdgmaaGreatDoor.Pl
namespace Go.Proofs.YtfkhljmiehdgmaaGreatDoor
open Go.RowKit
set_option maxRecDepth 100000 in
set_option maxHeartbeats 6400000 in
theorem qj5 (S:List Pl.Src) (w:World) (B:Nat) (F:Fix) (vv:Value) (s:Pl.Sr) (e:Pl.En) (kind:Int) (pos:Nat) (h:SeAt w B F S vv s) (hi:e.1<S.length) (hB:B≤w.heap.size) :
  Calls Tryz.prog 107 #[.pointer (some ⟨F.g,0,none⟩),qfh e,.int .i64 kind,.int .i64 pos] w fun ed w'=>(∃ r,ed=.returned r)∧SeAt w' B F S vv (s.wrong S e.1 kind pos)∧Cue B F w w':=by
 obtain⟨src,hsrc⟩:∃ src,S[e.1]?=some src:=⟨S[e.1],List.getElem?_eq_getElem hi⟩
 have hP:Pl.qlm S e.1=src.name:=by unfold Pl.qlm; rw[hsrc]
 have b0:∀ o,(w.alloc o).cell? ⟨F.g,0,none⟩=some (.slice (some ⟨F.bS,0,none⟩) S.length S.length):=fun o=>(h.alloc o).cell 0 _ rfl
 have b1:∀ o,(w.alloc o).cell? ⟨F.bS,e.1*2,none⟩=some (.string ⟨src.name.toArray⟩):=fun o=>(h.alloc o).src.name e.1 src hsrc
 have c1:(e.1:Int)<(S.length:Int):=by omega
 have HF:Hid (∀ o,SeAt (qly (w.alloc o) F.g (.int .i64 3) (.int .i64 kind) (.string ⟨src.name.toArray⟩) (.int .i64 pos)).drew B F S vv (s.wrong S e.1 kind pos)∧Cue B F w (qly (w.alloc o) F.g (.int .i64 3) (.int .i64 kind) (.string ⟨src.name.toArray⟩) (.int .i64 pos)).drew):=fun o=>by
  have hf:=SeAt.fault (h.alloc o) ⟨3,kind,Pl.qlm S e.1,pos⟩
  rw[hP]at hf
  have h1:Cue B F w (w.alloc o):=Cue.of_below ((Below.refl w.heap.size w).alloc (Nat.le_refl _) o) hB
  have h2:=h1.trans hf.2
  refine⟨?_,h2.trans (Cue.of_below (Below.refl _ _).drew (Nat.le_trans hB h2.below.size))⟩
  have:=hf.1.drew
  unfold Pl.Sr.wrong
  rw[hP]
  exact this
 have y5:∀ o,(w.alloc o).cell? ⟨F.g,5,none⟩=some _:=fun o=>(h.alloc o).cell 5 _ rfl
 have y6:∀ o,(w.alloc o).cell? ⟨F.g,6,none⟩=some _:=fun o=>(h.alloc o).cell 6 _ rfl
 have y7:∀ o,(w.alloc o).cell? ⟨F.g,7,none⟩=some _:=fun o=>(h.alloc o).cell 7 _ rfl
 have y8:∀ o,(w.alloc o).cell? ⟨F.g,8,none⟩=some _:=fun o=>(h.alloc o).cell 8 _ rfl
 have z5:∀ o,(w.alloc o).frozen? ⟨F.g,5,none⟩=false:=fun o=>(h.alloc o).thaw 5
 have z6:∀ o,(w.alloc o).frozen? ⟨F.g,6,none⟩=false:=fun o=>(h.alloc o).thaw 6
 have z7:∀ o,(w.alloc o).frozen? ⟨F.g,7,none⟩=false:=fun o=>(h.alloc o).thaw 7
 have z8:∀ o,(w.alloc o).frozen? ⟨F.g,8,none⟩=false:=fun o=>(h.alloc o).thaw 8
 rw[qbh]
 unfold qak bs
 clear h hP hsrc
 go_enter Tryz.func107,Tryz.ntmps107
 go_wp2_with fail
 go_region
 all_goals
  go_wp2_with fail
  go_end0
  unfold qly at HF
  exact⟨⟨_,rfl⟩,HF.out _⟩
end Go.Proofs.YtfkhljmiehdgmaaGreatDoor
