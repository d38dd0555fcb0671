/-
  Steps of the proof (texts laid together, blanks left out): ReW, TkB.
-/
import Derived.Test.YtfkhljmiehdgmaaGreatDoorTaAP
import Derived.Test.YtfkhljmiehdgmaaGreatDoorTaAF
namespace Go.Proofs.YtfkhljmiehdgmaaGreatDoor
open Go Go.RowKit Go.Lib Go.Shelf
theorem qmb (e:Pl.Ev) (f v a tz:Nat) (qac:Int) (K:List Pl.Pc) (o:Pl.Wt) (h:a<tz) (hs:o.steps≠5000) (p:Pl.Pt) (hp:(e.parts v)[a]?=some p) (r:Pl.Wt×Int) (next:Nat)
  (hr:r=(if p.kind=1 then e.put { o with steps:=o.steps+1 } p.text else if p.kind=2 then e.hole K { o with steps:=o.steps+1 } p.text ((e.marks v).getD a 0)
   else if p.kind=3∨p.kind=4 then e.section (fun K o=>Pl.qc1 (e.run f v (a+1) p.mate qac K) o) K p.kind p.text { o with steps:=o.steps+1 }
   else if p.kind=6 then(if(e.marks v).getD a 0=0 then({ o with steps:=o.steps+1 },0) else if e.depth<qac+1 then({ o with steps:=o.steps+1 },4) else e.run f ((e.marks v).getD a 0).toNat 0 (e.parts ((e.marks v).getD a 0).toNat).length (qac+1) K { o with steps:=o.steps+1 }) else({ o with steps:=o.steps+1 },0)))
  (hn:next=if p.kind=3∨p.kind=4 then p.mate+1 else a+1) :
  e.run (f+1) v a tz qac K o=if r.2≠0 then r else e.run f v next tz qac K r.1:=by
 have h1:e.run (f+1) v a tz qac K o=Pl.qc1 (fun w=>
   match (e.parts v)[a]? with
   | none=>(w,0)
   | some p=>
     let mark:=(e.marks v).getD a 0
     let on:=fun(r:Pl.Wt×Int) (next:Nat)=>if r.2≠0 then r else e.run f v next tz qac K r.1
     if p.kind=1 then on (e.put w p.text) (a+1)
     else if p.kind=2 then on (e.hole K w p.text mark) (a+1)
     else if p.kind=3∨p.kind=4 then on (e.section (fun K w=>Pl.qc1 (e.run f v (a+1) p.mate qac K) w) K p.kind p.text w) (p.mate+1)
     else if p.kind=6 then on (if mark=0 then(w,0) else if e.depth<qac+1 then(w,4) else e.run f mark.toNat 0 (e.parts mark.toNat).length (qac+1) K w) (a+1)
     else on (w,0) (a+1)) o:=by
  conv=>lhs; rw[Pl.Ev.run]
  rw[if_neg (by omega)]
  rfl
 rw[h1]
 unfold Pl.qc1
 rw[if_neg hs]
 simp only[hp]
 subst hr hn
 rcases(show p.kind=1∨p.kind=2∨p.kind=3∨p.kind=4∨p.kind=6∨(p.kind≠1∧p.kind≠2∧p.kind≠3∧p.kind≠4∧p.kind≠6) by omega)with k | k | k | k | k | ⟨k1,k2,k3,k4,k6⟩
 ·simp only[k,if_true]; rfl
 ·simp[k]
 ·simp[k]; rfl
 ·simp[k]; rfl
 ·simp[k]
 ·simp[k1,k2,k3,k4,k6]
theorem q53 (e:Pl.Ev) (f v a tz:Nat) (qac:Int) (K:List Pl.Pc) (o:Pl.Wt) (h:tz≤a):e.run (f+1) v a tz qac K o=(o,0):=by
 show (if tz≤a then(o,(0:Int)) else _)=_
 rw[if_pos h]
theorem q29 (e:Pl.Ev) (f v a tz:Nat) (qac:Int) (K:List Pl.Pc) (o:Pl.Wt) (h:a<tz) (hs:o.steps=5000):e.run (f+1) v a tz qac K o=(o,5):=by
 show (if tz≤a then(o,(0:Int)) else Pl.qc1 _ o)=_
 rw[if_neg (by omega)]
 unfold Pl.qc1
 rw[if_pos hs]
def qja (e:Pl.Ev) (f v a:Nat) (qac:Int) (K:List Pl.Pc) (o:Pl.Wt) (p:Pl.Pt):Pl.Wt×Int:=
 if p.kind=1 then e.put o p.text else if p.kind=2 then e.hole K o p.text ((e.marks v).getD a 0)
 else if p.kind=3∨p.kind=4 then e.section (fun K o=>Pl.qc1 (e.run f v (a+1) p.mate qac K) o) K p.kind p.text o
 else if p.kind=6 then(if(e.marks v).getD a 0=0 then(o,0) else if e.depth<qac+1 then(o,4) else e.run f ((e.marks v).getD a 0).toNat 0 (e.parts ((e.marks v).getD a 0).toNat).length (qac+1) K o) else(o,0)
theorem q0v {e:Pl.Ev} {M:Nat} (hM:e.Small M) (f v a:Nat) (qac:Int) (K:List Pl.Pc) (o:Pl.Wt) (p:Pl.Pt) (hp:p∈e.parts v) (h:Pl.FinS e M o):Pl.Fin e M (qja e f v a qac K o p).1∧o.steps≤(qja e f v a qac K o p).1.steps:=by
 unfold qja
 split
 ·exact⟨h.put (hM.1 v p hp),by rw[Pl.qer]; exact Nat.le_refl _⟩
 split
 ·exact⟨h.hole hM _ _ _,by rw[Pl.qpp]; exact Nat.le_refl _⟩
 split
 ·exact⟨Pl.qm9 (fun K o h=>Pl.qiy h fun h=>Pl.qvd hM _ _ _ _ _ _ _ h.fin) K _ _ o h.fin,(Pl.qkf e (fun K w h=>Pl.qgp (fun w h=>Pl.qnc e _ _ _ _ _ _ w h) w h) K _ _ o h.steps).1⟩
 split
 ·split
  ·exact⟨h.fin,Nat.le_refl _⟩
  ·split
   ·exact⟨h.fin,Nat.le_refl _⟩
   ·exact⟨Pl.qvd hM _ _ _ _ _ _ _ h.fin,(Pl.qnc e _ _ _ _ _ _ o h.steps).1⟩
 ·exact⟨h.fin,Nat.le_refl _⟩
structure PaL (w0:World) (g:Nat) (vv dv:Value) (e:Pl.Ev) (M:Nat) (K:List Pl.Pc) (w:World) (sp:Array Value) (o:Pl.Wt) (wr:World):Prop where
 st:Wst w0 g vv dv e M K o wr
 rn:Rn w0.heap.size g w wr
 sp:Mine g wr w.heap.size sp 208
set_option maxRecDepth 100000 in
set_option maxHeartbeats 6400000 in
theorem qye {w0:World} {g:Nat} {vv dv:Value} {e:Pl.Ev} {M F:Nat} (hE:Evm w0 vv dv e M) (HP:∀ k,k<F→qoo w0 g vv dv e M k):qoo w0 g vv dv e M F:=by
 intro v at' tz qac K o w po pcap gm hv htz hi0 hi1 h hf hK
 obtain⟨r,HR⟩:∃ r,Hid (e.run F v at' tz qac K o=r):=⟨_,rfl⟩
 rw[HR.out]
 have HV:=(show Hid _ from hv)
 have HH:=(show Hid _ from h)
 have hal:Below w.heap.size w (w.alloc (.cells #[.slice po (e.parts v).length pcap,.slice (some ⟨gm,0,none⟩) (e.parts v).length (e.parts v).length,.int .i64 (at':Nat),.int .i64 (tz:Nat),.int .i64 qac] 208)):=(Below.refl _ _).alloc (Nat.le_refl _) _
 have HL0:Hid (PaL w0 g vv dv e M K w #[.slice po (e.parts v).length pcap,.slice (some ⟨gm,0,none⟩) (e.parts v).length (e.parts v).length,.int .i64 (at':Nat),.int .i64 (tz:Nat),.int .i64 qac] o (w.alloc (.cells #[.slice po (e.parts v).length pcap,.slice (some ⟨gm,0,none⟩) (e.parts v).length (e.parts v).length,.int .i64 (at':Nat),.int .i64 (tz:Nat),.int .i64 qac] 208))):=
  ⟨h.below hal,h.rn hal,Mine.new h.at' _ _ (by decide)⟩
 obtain⟨s,hs⟩:∃ s,w.heap.size=s:=⟨_,rfl⟩
 have HBs:Hid (w0.heap.size≤w.heap.size):=h.base.size
 have hpl:(e.parts v).length≤100000:=hE.ok.small.2 v
 clear hv h hal
 unfold qke
 go_enter Tryz.func90,Tryz.ntmps90
 go_wp2
 go_loopw [5] (fun x wr=>∃(a f:Nat) (o':Pl.Wt),x=.int .i64 a∧Hid (f≤F∧5001≤f+o'.steps∧K.length≤o'.steps+1∧e.run f v a tz qac K o'=r)∧Hid (PaL w0 g vv dv e M K w #[.slice po (e.parts v).length pcap,.slice (some ⟨gm,0,none⟩) (e.parts v).length (e.parts v).length,.int .i64 (at':Nat),.int .i64 (tz:Nat),.int .i64 qac] o' wr)) (fun x _=>tz - (intOf x).toNat)
 case atStart=>exact⟨at',F,o,rfl,⟨Nat.le_refl _,hf,hK,HR.out⟩,HL0.out⟩
 case round=>
  obtain⟨a,f,o',rfl,HF,HL⟩:=hrel
  have d2:wr.cell? ⟨s,3,none⟩=some (.int .i64 (tz:Nat)):=by rw[← hs]; exact HL.out.sp.cell 3 _ rfl
  have hst:=HL.out.st.fin.steps
  obtain⟨f,rfl⟩:∃ f',f=f'+1:=⟨f - 1,by have:=HF.out.2.1; omega⟩
  by_cases hlt:(a:Int)<(tz:Int)
  rotate_left
  ·have HO:Hid (OutC w0 g vv dv e K r w (.returned (.int .i64 0)) wr):=by
    have h1:=HF.out.2.2.2
    rw[q53 e f v a tz qac K o' (by omega)]at h1
    show OutC _ _ _ _ _ _ _ _ _ _
    rw[← h1]
    exact⟨rfl,⟨K,HL.out.st.at',fun _=>rfl⟩,HL.out.rn⟩
   go_wp2
   go_ret
   exact HO.out
  ·have hat:a<tz:=by omega
   have hal:a<(e.parts v).length:=by omega
   obtain⟨p,hp⟩:∃ p,(e.parts v)[a]?=some p:=⟨_,List.getElem?_eq_getElem hal⟩
   by_cases hs5:o'.steps=5000
   ·have HO:Hid (OutC w0 g vv dv e K r w (.returned (.int .i64 5)) wr):=by
     have h1:=HF.out.2.2.2
     rw[q29 e f v a tz qac K o' hat hs5]at h1
     show OutC _ _ _ _ _ _ _ _ _ _
     rw[← h1]
     exact⟨rfl,⟨K,HL.out.st.at',fun _=>rfl⟩,HL.out.rn⟩
    have HS:Hid (Calls Tryz.prog 124 #[.pointer (some ⟨g,0,none⟩)] wr fun ed w'=>ed=.returned (.int .i64 5)∧wr=w'):=by
     refine(ql9 HL.out.st).mono ?_
     rintro ed w' (⟨_,rfl,rfl⟩ | ⟨h1,_⟩)
     ·exact⟨rfl,rfl⟩
     ·exact absurd hs5 h1
    go_wp2_with (go_at_call 124; refine Calls.mono HS.out ?_; rintro ed w' ⟨rfl,rfl⟩)
    go_ret
    exact HO.out
   ·have HS:Hid (Calls Tryz.prog 124 #[.pointer (some ⟨g,0,none⟩)] wr fun ed w'=>ed=.returned (.int .i64 0)∧Hid (PaL w0 g vv dv e M K w #[.slice po (e.parts v).length pcap,.slice (some ⟨gm,0,none⟩) (e.parts v).length (e.parts v).length,.int .i64 (at':Nat),.int .i64 (tz:Nat),.int .i64 qac] { o' with steps:=o'.steps+1 } w'∧Pl.FinS e M { o' with steps:=o'.steps+1 })):=by
     refine(ql9 HL.out.st).mono ?_
     rintro ed w' (⟨h1,_⟩ | ⟨_,rfl,h2,h3,h4⟩)
     ·exact absurd h1 hs5
     ·have hfs:=HL.out.st.fin.step hs5
      exact⟨rfl,⟨⟨h2,h3,hfs.fin,HL.out.st.ne⟩,HL.out.rn.trans h4,HL.out.sp.rn h4⟩,hfs⟩
    go_wp2_with (go_at_call 124; refine Calls.mono HS.out ?_; rintro ed w1 ⟨rfl,H1⟩)
    obtain⟨o1,ho1⟩:∃ o1:Pl.Wt,({ o' with steps:=o'.steps+1 }:Pl.Wt)=o1:=⟨_,rfl⟩
    rw[ho1]at H1
    obtain⟨m,hm⟩:∃ m,(e.marks v).getD a 0=m:=⟨_,rfl⟩
    have hml:(e.marks v)[a]?=some m:=by
     have h1:a<(e.marks v).length:=by rw[hE.ok.len v]; exact hal
     rw[← hm,List.getD_eq_getElem?_getD,List.getElem?_eq_getElem h1]; rfl
    have hvb:=HV.out.below H1.out.1.st.base
    obtain⟨pb,hpo,y0⟩:=hvb.1 _ _ (qdz _ a p hp 0 _ rfl)
    subst hpo
    have hy:∀ j q,(qcl p)[j]?=some q→w1.cell? ⟨pb,a*4+j,none⟩=some q:=fun j q hj=>by
     obtain⟨pb',h1,h2⟩:=hvb.1 _ _ (qdz _ a p hp j q hj)
     cases h1
     exact h2
    have y0:w1.cell? ⟨pb,a*4,none⟩=some (.int .i64 (p.kind:Nat)):=hy 0 _ rfl
    have y1:w1.cell? ⟨pb,a*4+1,none⟩=some (.int .i64 (p.pos:Nat)):=hy 1 _ rfl
    have y2:w1.cell? ⟨pb,a*4+2,none⟩=some (bs p.text):=hy 2 _ rfl
    have y3:w1.cell? ⟨pb,a*4+3,none⟩=some (.int .i64 (p.mate:Nat)):=hy 3 _ rfl
    have ym:w1.cell? ⟨gm,a,none⟩=some (.int .i64 m):=hvb.2 _ _ hml
    have z0:w1.cell? ⟨s,0,none⟩=some (.slice (some ⟨pb,0,none⟩) (e.parts v).length pcap):=by rw[← hs]; exact H1.out.1.sp.cell 0 _ rfl
    have z1:w1.cell? ⟨s,1,none⟩=some (.slice (some ⟨gm,0,none⟩) (e.parts v).length (e.parts v).length):=by rw[← hs]; exact H1.out.1.sp.cell 1 _ rfl
    unfold bs at y2
    obtain⟨tx,htx⟩:∃ tx:ByteArray,(⟨p.text.toArray⟩:ByteArray)=tx:=⟨_,rfl⟩
    rw[htx]at y2
    have hl0:pb<w1.heap.size∧gm<w1.heap.size:=⟨qh1 y0,qh1 ym⟩
    have hls:s<w1.heap.size:=qh1 z0
    have hSa:∀ X,Below w1.heap.size w1 X→X.cell? ⟨s,0,none⟩=some (.slice (some ⟨pb,0,none⟩) (e.parts v).length pcap)∧X.cell? ⟨s,1,none⟩=some (.slice (some ⟨gm,0,none⟩) (e.parts v).length (e.parts v).length)∧X.cell? ⟨pb,a*4,none⟩=some (.int .i64 (p.kind:Nat))∧X.cell? ⟨pb,a*4+1,none⟩=some (.int .i64 (p.pos:Nat))∧X.cell? ⟨pb,a*4+2,none⟩=some (.string tx)∧X.cell? ⟨pb,a*4+3,none⟩=some (.int .i64 (p.mate:Nat))∧X.cell? ⟨gm,a,none⟩=some (.int .i64 m):=fun X hb=>
     ⟨(hb.cell (p:=⟨s,0,none⟩) hls).trans z0,(hb.cell (p:=⟨s,1,none⟩) hls).trans z1,(hb.cell (p:=⟨pb,a*4,none⟩) hl0.1).trans y0,(hb.cell (p:=⟨pb,a*4+1,none⟩) hl0.1).trans y1,(hb.cell (p:=⟨pb,a*4+2,none⟩) hl0.1).trans y2,(hb.cell (p:=⟨pb,a*4+3,none⟩) hl0.1).trans y3,(hb.cell (p:=⟨gm,a,none⟩) hl0.2).trans ym⟩
    have HSd:=(show Hid _ from hSa w1.drew (Below.refl _ _).drew)
    have HSa:=(show Hid _ from fun ob=>hSa (w1.alloc ob).drew ((Below.refl _ _).alloc (Nat.le_refl _) ob).drew)
    clear hSa hy hvb
    go_region_held3 (fun X=>X.cell? ⟨s,0,none⟩=some (.slice (some ⟨pb,0,none⟩) (e.parts v).length pcap)∧X.cell? ⟨s,1,none⟩=some (.slice (some ⟨gm,0,none⟩) (e.parts v).length (e.parts v).length)∧X.cell? ⟨pb,a*4,none⟩=some (.int .i64 (p.kind:Nat))∧X.cell? ⟨pb,a*4+1,none⟩=some (.int .i64 (p.pos:Nat))∧X.cell? ⟨pb,a*4+2,none⟩=some (.string tx)∧X.cell? ⟨pb,a*4+3,none⟩=some (.int .i64 (p.mate:Nat))∧X.cell? ⟨gm,a,none⟩=some (.int .i64 m)) (first | assumption | exact HSd.out | exact HSa.out _) (fail)
    have hpm:p∈e.parts v:=List.mem_of_getElem? hp
    have hcs:qcl p=[.int .i64 (p.kind:Nat),.int .i64 (p.pos:Nat),.string tx,.int .i64 (p.mate:Nat)]:=by rw[← htx]; rfl
    have hbl:Below w1.heap.size w1 (w1.alloc (.cells #[.int .i64 (p.kind:Nat),.int .i64 (p.pos:Nat),.string tx,.int .i64 (p.mate:Nat)] 229)).drew:=((Below.refl _ _).alloc (Nat.le_refl _) _).drew
    have Hpm:Hid (Mine g (w1.alloc (.cells #[.int .i64 (p.kind:Nat),.int .i64 (p.pos:Nat),.string tx,.int .i64 (p.mate:Nat)] 229)).drew w1.heap.size #[.int .i64 (p.kind:Nat),.int .i64 (p.pos:Nat),.string tx,.int .i64 (p.mate:Nat)] 229):=by
     have h1:=Mine.new H1.out.1.st.at' #[.int .i64 (p.kind:Nat),.int .i64 (p.pos:Nat),.string tx,.int .i64 (p.mate:Nat)] 229 (by decide)
     exact⟨h1.blk,h1.far,h1.ty⟩
    have H2:Hid (PaL w0 g vv dv e M K w #[.slice (some ⟨pb,0,none⟩) (e.parts v).length pcap,.slice (some ⟨gm,0,none⟩) (e.parts v).length (e.parts v).length,.int .i64 (at':Nat),.int .i64 (tz:Nat),.int .i64 qac] o1 (w1.alloc (.cells #[.int .i64 (p.kind:Nat),.int .i64 (p.pos:Nat),.string tx,.int .i64 (p.mate:Nat)] 229)).drew∧Pl.FinS e M o1):=
     ⟨⟨H1.out.1.st.below hbl,H1.out.1.rn.trans (H1.out.1.st.rn hbl),H1.out.1.sp.rn (H1.out.1.st.rn hbl)⟩,H1.out.2⟩
    have hqc:=qaa (show (w1.alloc (.cells #[.int .i64 (p.kind:Nat),.int .i64 (p.pos:Nat),.string tx,.int .i64 (p.mate:Nat)] 229)).drew.heap[w1.heap.size]?=_ from heap_alloc_new w1 _)
    have q0:=hqc 0 _ rfl
    have q1:=hqc 1 _ rfl
    have q2:=hqc 2 _ rfl
    have q3:=hqc 3 _ rfl
    clear hqc hbl HSa HSd y0 y1 y2 y3 ym z0 z1 hl0 hls H1
    generalize (w1.alloc (.cells #[.int .i64 (p.kind:Nat),.int .i64 (p.pos:Nat),.string tx,.int .i64 (p.mate:Nat)] 229)).drew=w2 at H2 Hpm q0 q1 q2 q3 ⊢
    generalize w1.heap.size=b7 at Hpm q0 q1 q2 q3 ⊢
    have z0:w2.cell? ⟨s,0,none⟩=some (.slice (some ⟨pb,0,none⟩) (e.parts v).length pcap):=by rw[← hs]; exact H2.out.1.sp.cell 0 _ rfl
    have z1:w2.cell? ⟨s,1,none⟩=some (.slice (some ⟨gm,0,none⟩) (e.parts v).length (e.parts v).length):=by rw[← hs]; exact H2.out.1.sp.cell 1 _ rfl
    have z4:w2.cell? ⟨s,4,none⟩=some (.int .i64 qac):=by rw[← hs]; exact H2.out.1.sp.cell 4 _ rfl
    obtain⟨r1,hr1⟩:∃ r1,qja e f v a qac K o1 p=r1:=⟨_,rfl⟩
    have hfn:=q0v hE.small f v a qac K o1 p hpm H2.out.2
    rw[hr1]at hfn
    have HF2:=HF.out
    have hrun:r=if r1.2≠0 then r1 else e.run f v (if p.kind=3∨p.kind=4 then p.mate+1 else a+1) tz qac K r1.1:=by
     rw[← HF2.2.2.2]
     refine qmb e f v a tz qac K o' hat hs5 p hp r1 _ ?_ rfl
     rw[ho1,← hr1]
     rfl
    have hs1:o1.steps=o'.steps+1:=by rw[← ho1]
    have hPf:=HP f (by omega)
    have hKo:K.length≤o1.steps:=by omega
    have h5k:5001≤f+o1.steps:=by omega
    have HEnd:Hid (∀ w3,OutC w0 g vv dv e K r1 w2 (.returned (.int .i64 r1.2)) w3→r1.2≠0→OutC w0 g vv dv e K r w (.returned (.int .i64 r1.2)) w3):=fun w3 hO hz=>by
     rw[if_pos hz]at hrun
     rw[hrun]
     exact hO.from H2.out.1.rn
    have HNext:Hid (∀ w3,OutC w0 g vv dv e K r1 w2 (.returned (.int .i64 r1.2)) w3→r1.2=0→Hid (f≤F∧5001≤f+r1.1.steps∧K.length≤r1.1.steps+1∧e.run f v (if p.kind=3∨p.kind=4 then p.mate+1 else a+1) tz qac K r1.1=r)∧Hid (PaL w0 g vv dv e M K w #[.slice (some ⟨pb,0,none⟩) (e.parts v).length pcap,.slice (some ⟨gm,0,none⟩) (e.parts v).length (e.parts v).length,.int .i64 (at':Nat),.int .i64 (tz:Nat),.int .i64 qac] r1.1 w3)):=fun w3 hO hz=>by
     rw[if_neg (by simpa using hz)]at hrun
     obtain⟨_,⟨K',h1,h2⟩,h3⟩:=hO
     rw[h2 hz]at h1
     exact⟨⟨by omega,by omega,by omega,hrun.symm⟩,⟨⟨H2.out.1.st.base.trans h3.below,h1,hfn.1,H2.out.1.st.ne⟩,H2.out.1.rn.trans h3,H2.out.1.sp.rn h3⟩⟩
    have hw1:IntKind.i64.wrap ((a:Int)+1)=(a:Int)+1:=by rw[IntKind.wrap_i64]<;>omega
    have hw2:IntKind.i64.wrap (qac+1)=qac+1:=by rw[IntKind.wrap_i64]<;>omega
    have hmt:p.kind=3∨p.kind=4→a<p.mate∧p.mate<(e.parts v).length:=hE.ok.mate v a p hp
    have hnm:=hE.names v p hpm
    have hz1:=HR
    clear HS HF HR HL HL0 hrun hfn
    have hkk:(((p.kind:Int)==1)=decide (p.kind=1))∧(((p.kind:Int)==2)=decide (p.kind=2))∧(((p.kind:Int)==3)=decide (p.kind=3))∧(((p.kind:Int)==4)=decide (p.kind=4))∧(((p.kind:Int)==6)=decide (p.kind=6)):=by
     refine⟨?_,?_,?_,?_,?_⟩<;>(rw[Bool.eq_iff_iff,beq_iff_eq,decide_eq_true_iff]; omega)
    obtain⟨hk1,hk2,hk3,hk4,hk6⟩:=hkk
    rcases(show p.kind=1∨p.kind=2∨p.kind=3∨p.kind=4∨p.kind=6∨(p.kind≠1∧p.kind≠2∧p.kind≠3∧p.kind≠4∧p.kind≠6) by omega)with k | k | k | k | k | ⟨k1,k2,k3,k4,k6⟩
    ·have hC:=q55 hE K o1 w2 H2.out.1.st H2.out.2 p.text (hE.small.1 v p hpm)
     have e1:qja e f v a qac K o1 p=e.put o1 p.text:=by unfold qja; rw[if_pos k]
     rw[← e1,hr1]at hC
     unfold bs at hC
     rw[htx]at hC
     have HC:Hid (Calls Tryz.prog 125 #[.pointer (some ⟨g,0,none⟩),.string tx] w2 fun ed w3=>ed=.returned (.int .i64 r1.2)∧Hid (OutC w0 g vv dv e K r1 w2 (.returned (.int .i64 r1.2)) w3)):=hC.mono fun ed w3 hO=>⟨hO.1,hO.1▸hO⟩
     have hnx:(if p.kind=3∨p.kind=4 then p.mate+1 else a+1)=a+1:=if_neg (by omega)
     rw[show decide (p.kind=1)=true by simp[k]]at hk1
     rw[show decide (p.kind=2)=false by simp[k]]at hk2
     rw[show decide (p.kind=3)=false by simp[k]]at hk3
     rw[show decide (p.kind=4)=false by simp[k]]at hk4
     rw[show decide (p.kind=6)=false by simp[k]]at hk6
     clear hC k
     by_cases hz:r1.2=0
     ·have HN:=HNext.out
      rw[hz]at HC HN
      go_wp2_with (go_at_call 125; refine Calls.mono HC.out ?_; rintro ed w3 ⟨rfl,HO⟩)
      obtain⟨HN1,HN2⟩:=HN w3 HO.out trivial
      rw[hnx]at HN1
      go_roundw
      case rel=>exact⟨a+1,f,r1.1,by go_num,HN1,HN2⟩
      case measure=>simp[intOf]; omega
     ·go_wp2_with (go_at_call 125; refine Calls.mono HC.out ?_; rintro ed w3 ⟨rfl,HO⟩)
      go_ret
      exact HEnd.out _ HO.out hz
    ·have hC:=q39 hE K o1 w2 H2.out.1.st H2.out.2 tx (by rw[← htx]; simp only[ByteArray.size,List.size_toArray]; exact hnm) m
     have e1:qja e f v a qac K o1 p=e.hole K o1 tx.data.toList m:=by unfold qja; rw[if_neg (by omega),if_pos k,hm,← htx]
     rw[← e1,hr1]at hC
     have HC:Hid (Calls Tryz.prog 126 #[.pointer (some ⟨g,0,none⟩),.string tx,.int .i64 m] w2 fun ed w3=>ed=.returned (.int .i64 r1.2)∧Hid (OutC w0 g vv dv e K r1 w2 (.returned (.int .i64 r1.2)) w3)):=hC.mono fun ed w3 hO=>⟨hO.1,hO.1▸hO⟩
     have hnx:(if p.kind=3∨p.kind=4 then p.mate+1 else a+1)=a+1:=if_neg (by omega)
     rw[show decide (p.kind=1)=false by simp[k]]at hk1
     rw[show decide (p.kind=2)=true by simp[k]]at hk2
     rw[show decide (p.kind=3)=false by simp[k]]at hk3
     rw[show decide (p.kind=4)=false by simp[k]]at hk4
     rw[show decide (p.kind=6)=false by simp[k]]at hk6
     clear hC k
     by_cases hz:r1.2=0
     ·have HN:=HNext.out
      rw[hz]at HC HN
      go_wp2_with (go_at_call 126; refine Calls.mono HC.out ?_; rintro ed w3 ⟨rfl,HO⟩)
      obtain⟨HN1,HN2⟩:=HN w3 HO.out trivial
      rw[hnx]at HN1
      go_roundw
      case rel=>exact⟨a+1,f,r1.1,by go_num,HN1,HN2⟩
      case measure=>simp[intOf]; omega
     ·go_wp2_with (go_at_call 126; refine Calls.mono HC.out ?_; rintro ed w3 ⟨rfl,HO⟩)
      go_ret
      exact HEnd.out _ HO.out hz
    ·have hm2:=hmt (by omega)
     have hC:=qna hE hPf v (a+1) qac p K o1 w2 (some ⟨pb,0,none⟩) pcap gm HV.out (by omega) (by omega) hnm hi0 hi1 H2.out.1.st h5k hKo
     have e1:qja e f v a qac K o1 p=e.section (fun K o=>Pl.qc1 (e.run f v (a+1) p.mate qac K) o) K p.kind p.text o1:=by unfold qja; rw[if_neg (by omega),if_neg (by omega),if_pos (by omega)]
     rw[← e1,hr1]at hC
     unfold bs qke at hC
     rw[htx,show ((a+1:Nat):Int)=(a:Int)+1 from rfl]at hC
     have HC:Hid (Calls Tryz.prog 127 #[.pointer (some ⟨g,0,none⟩),.agg #[.int .i64 (p.kind:Nat),.int .i64 (p.pos:Nat),.string tx,.int .i64 (p.mate:Nat)],.agg #[.slice (some ⟨pb,0,none⟩) (e.parts v).length pcap,.slice (some ⟨gm,0,none⟩) (e.parts v).length (e.parts v).length,.int .i64 ((a:Int)+1),.int .i64 (p.mate:Nat),.int .i64 qac]] w2 fun ed w3=>ed=.returned (.int .i64 r1.2)∧Hid (OutC w0 g vv dv e K r1 w2 (.returned (.int .i64 r1.2)) w3)∧w3.cell? ⟨b7,3,none⟩=some (.int .i64 (p.mate:Nat))):=hC.mono fun ed w3 hO=>⟨hO.1,hO.1▸hO,(Hpm.out.rn hO.2.2).cell 3 _ rfl⟩
     have hnx:(if p.kind=3∨p.kind=4 then p.mate+1 else a+1)=p.mate+1:=if_pos (by omega)
     have hw3:IntKind.i64.wrap ((p.mate:Int)+1)=(p.mate:Int)+1:=by rw[IntKind.wrap_i64]<;>omega
     rw[show decide (p.kind=1)=false by simp[k]]at hk1
     rw[show decide (p.kind=2)=false by simp[k]]at hk2
     rw[show decide (p.kind=3)=true by simp[k]]at hk3
     rw[show decide (p.kind=4)=false by simp[k]]at hk4
     rw[show decide (p.kind=6)=false by simp[k]]at hk6
     clear hC k
     by_cases hz:r1.2=0
     ·have HN:=HNext.out
      rw[hz]at HC HN
      go_wp2_with (go_at_call 127; refine Calls.mono HC.out ?_; rintro ed w3 ⟨rfl,HO,HX⟩; have q3:=HX)
      obtain⟨HN1,HN2⟩:=HN w3 HO.out trivial
      rw[hnx]at HN1
      go_roundw
      case rel=>exact⟨p.mate+1,f,r1.1,by go_num,HN1,HN2⟩
      case measure=>simp[intOf]; omega
     ·go_wp2_with (go_at_call 127; refine Calls.mono HC.out ?_; rintro ed w3 ⟨rfl,HO,HX⟩; have q3:=HX)
      go_ret
      exact HEnd.out _ HO.out hz
    ·have hm2:=hmt (by omega)
     have hC:=qna hE hPf v (a+1) qac p K o1 w2 (some ⟨pb,0,none⟩) pcap gm HV.out (by omega) (by omega) hnm hi0 hi1 H2.out.1.st h5k hKo
     have e1:qja e f v a qac K o1 p=e.section (fun K o=>Pl.qc1 (e.run f v (a+1) p.mate qac K) o) K p.kind p.text o1:=by unfold qja; rw[if_neg (by omega),if_neg (by omega),if_pos (by omega)]
     rw[← e1,hr1]at hC
     unfold bs qke at hC
     rw[htx,show ((a+1:Nat):Int)=(a:Int)+1 from rfl]at hC
     have HC:Hid (Calls Tryz.prog 127 #[.pointer (some ⟨g,0,none⟩),.agg #[.int .i64 (p.kind:Nat),.int .i64 (p.pos:Nat),.string tx,.int .i64 (p.mate:Nat)],.agg #[.slice (some ⟨pb,0,none⟩) (e.parts v).length pcap,.slice (some ⟨gm,0,none⟩) (e.parts v).length (e.parts v).length,.int .i64 ((a:Int)+1),.int .i64 (p.mate:Nat),.int .i64 qac]] w2 fun ed w3=>ed=.returned (.int .i64 r1.2)∧Hid (OutC w0 g vv dv e K r1 w2 (.returned (.int .i64 r1.2)) w3)∧w3.cell? ⟨b7,3,none⟩=some (.int .i64 (p.mate:Nat))):=hC.mono fun ed w3 hO=>⟨hO.1,hO.1▸hO,(Hpm.out.rn hO.2.2).cell 3 _ rfl⟩
     have hnx:(if p.kind=3∨p.kind=4 then p.mate+1 else a+1)=p.mate+1:=if_pos (by omega)
     have hw3:IntKind.i64.wrap ((p.mate:Int)+1)=(p.mate:Int)+1:=by rw[IntKind.wrap_i64]<;>omega
     rw[show decide (p.kind=1)=false by simp[k]]at hk1
     rw[show decide (p.kind=2)=false by simp[k]]at hk2
     rw[show decide (p.kind=3)=false by simp[k]]at hk3
     rw[show decide (p.kind=4)=true by simp[k]]at hk4
     rw[show decide (p.kind=6)=false by simp[k]]at hk6
     clear hC k
     by_cases hz:r1.2=0
     ·have HN:=HNext.out
      rw[hz]at HC HN
      go_wp2_with (go_at_call 127; refine Calls.mono HC.out ?_; rintro ed w3 ⟨rfl,HO,HX⟩; have q3:=HX)
      obtain⟨HN1,HN2⟩:=HN w3 HO.out trivial
      rw[hnx]at HN1
      go_roundw
      case rel=>exact⟨p.mate+1,f,r1.1,by go_num,HN1,HN2⟩
      case measure=>simp[intOf]; omega
     ·go_wp2_with (go_at_call 127; refine Calls.mono HC.out ?_; rintro ed w3 ⟨rfl,HO,HX⟩; have q3:=HX)
      go_ret
      exact HEnd.out _ HO.out hz
    ·have hmk:=hE.ok.mark v a p hp k
     rw[hm]at hmk
     have hC:=qvo hE hPf m hmk.1 hmk.2 qac K o1 w2 hi0 H2.out.1.st h5k (by omega)
     have e1:qja e f v a qac K o1 p=(if m=0 then(o1,0) else if e.depth<qac+1 then(o1,4) else e.run f m.toNat 0 (e.parts m.toNat).length (qac+1) K o1):=by unfold qja; rw[if_neg (by omega),if_neg (by omega),if_neg (by omega),if_pos k,hm]
     rw[← e1,hr1]at hC
     have HC:Hid (Calls Tryz.prog 128 #[.pointer (some ⟨g,0,none⟩),.int .i64 m,.int .i64 (qac+1)] w2 fun ed w3=>ed=.returned (.int .i64 r1.2)∧Hid (OutC w0 g vv dv e K r1 w2 (.returned (.int .i64 r1.2)) w3)):=hC.mono fun ed w3 hO=>⟨hO.1,hO.1▸hO⟩
     have hnx:(if p.kind=3∨p.kind=4 then p.mate+1 else a+1)=a+1:=if_neg (by omega)
     rw[show decide (p.kind=1)=false by simp[k]]at hk1
     rw[show decide (p.kind=2)=false by simp[k]]at hk2
     rw[show decide (p.kind=3)=false by simp[k]]at hk3
     rw[show decide (p.kind=4)=false by simp[k]]at hk4
     rw[show decide (p.kind=6)=true by simp[k]]at hk6
     clear hC k
     by_cases hz:r1.2=0
     ·have HN:=HNext.out
      rw[hz]at HC HN
      go_wp2_with (go_at_call 128; refine Calls.mono HC.out ?_; rintro ed w3 ⟨rfl,HO⟩)
      obtain⟨HN1,HN2⟩:=HN w3 HO.out trivial
      rw[hnx]at HN1
      go_roundw
      case rel=>exact⟨a+1,f,r1.1,by go_num,HN1,HN2⟩
      case measure=>simp[intOf]; omega
     ·go_wp2_with (go_at_call 128; refine Calls.mono HC.out ?_; rintro ed w3 ⟨rfl,HO⟩)
      go_ret
      exact HEnd.out _ HO.out hz
    ·have e1:qja e f v a qac K o1 p=(o1,0):=by unfold qja; rw[if_neg k1,if_neg k2,if_neg (by omega),if_neg k6]
     rw[e1]at hr1
     subst hr1
     have hnx:(if p.kind=3∨p.kind=4 then p.mate+1 else a+1)=a+1:=if_neg (by omega)
     obtain⟨HN1,HN2⟩:=HNext.out w2 ⟨rfl,⟨K,H2.out.1.st.at',fun _=>rfl⟩,Rn.refl _ _ _⟩ rfl
     rw[hnx]at HN1
     rw[show decide (p.kind=1)=false by simp[k1]]at hk1
     rw[show decide (p.kind=2)=false by simp[k2]]at hk2
     rw[show decide (p.kind=3)=false by simp[k3]]at hk3
     rw[show decide (p.kind=4)=false by simp[k4]]at hk4
     rw[show decide (p.kind=6)=false by simp[k6]]at hk6
     go_wp2
     go_roundw
     case rel=>exact⟨a+1,f,o1,by go_num,HN1,HN2⟩
     case measure=>simp[intOf]; omega
theorem q0u {w0:World} {g:Nat} {vv dv:Value} {e:Pl.Ev} {M:Nat} (hE:Evm w0 vv dv e M) (F:Nat):qoo w0 g vv dv e M F:=by
 induction F using Nat.strongRecOn with
 | _ F IH=>exact qye hE IH
end Go.Proofs.YtfkhljmiehdgmaaGreatDoor
namespace Go.Proofs.YtfkhljmiehdgmaaGreatDoor.Pl
def D0 (V:List UInt8):List Dt:=[⟨5,0,[],[1,2,3],[[118],[121],[110]]⟩,⟨3,0,V,[],[]⟩,⟨4,0,[],[4,5],[]⟩,⟨1,0,[],[],[]⟩,⟨2,0,[],[],[]⟩,⟨0,0,[],[],[]⟩]
structure EOk (V:List UInt8) (e:Ev):Prop where
 data:e.D=D0 V
 room:e.room=-1
def KTop (K:List Pc):Prop:=K=[some 0]
def KOk (K:List Pc):Prop:=K=[some 0]∨K=[some 4,some 0]∨K=[some 5,some 0]
theorem q8d (V:List UInt8) (K:List Pc) (h:KOk K):qds (D0 V) K [118]=some 1:=by
 rcases h with rfl | rfl | rfl<;>rfl
def Lies (e:Ev) (i:Nat) (l:List Pt):Prop:=∀ k p,l[k]?=some p→(e.parts 0)[i+k]?=some p
def Mks (e:Ev) (i:Nat) (x:Sx) (B:List Sx) (l:List Pt):Prop:=∀ k p y,l[k]?=some p→p.kind=2→qbr (l.take k) x B=some y→(e.marks 0).getD (i+k) 0=y.1.hole.1
theorem Lies.head {e:Ev} {i:Nat} {l m:List Pt} (h:Lies e i (l++m)):Lies e i l:=fun k p hp=>h k p (by
 have:=(List.getElem?_eq_some_iff.1 hp).1
 rw[List.getElem?_append_left this]; exact hp)
theorem Lies.tail {e:Ev} {i:Nat} {l m:List Pt} (h:Lies e i (l++m)):Lies e (i+l.length) m:=fun k p hp=>by
 have:=h (l.length+k) p (by rw[List.getElem?_append_right (by omega),show l.length+k - l.length=k by omega]; exact hp)
 rwa [← Nat.add_assoc]at this
theorem Mks.head {e:Ev} {i:Nat} {x:Sx} {B:List Sx} {l m:List Pt} (h:Mks e i x B (l++m)):Mks e i x B l:=fun k p y hp k2 hf=>by
 have hk:=(List.getElem?_eq_some_iff.1 hp).1
 refine h k p y (by rw[List.getElem?_append_left hk]; exact hp) k2 ?_
 rw[List.take_append_of_le_length (by omega)]; exact hf
theorem Mks.tail {e:Ev} {i:Nat} {x:Sx} {B:List Sx} {l m:List Pt} (h:Mks e i x B (l++m)) {z:Sx×List Sx} (hz:qbr l x B=some z):Mks e (i+l.length) z.1 z.2 m:=fun k p y hp k2 hf=>by
 have:=h (l.length+k) p y (by rw[List.getElem?_append_right (by omega),show l.length+k - l.length=k by omega]; exact hp) k2 (by
  rw[List.take_append,List.take_of_length_le (by omega),show l.length+k - l.length=k by omega,qcv,hz]; exact hf)
 rwa [← Nat.add_assoc]at this
structure Seg (V:List UInt8) (Q:List Pc→Prop) (m i:Nat) (x:Sx) (l:List Pt) (O:List UInt8) (y:Sx):Prop where
 fold:∀ B,qbr l x B=some (y,B)
 six:∀ p∈l,p.kind≠6
 run:∀ e,EOk V e→∀ B,Lies e i l→Mks e i x B l→∀ K,Q K→∀ tz,i+l.length≤tz→∀(o:Wt) (f:Nat),o.steps+m*l.length≤5000→1≤f →
  ∃(o':Wt) (f':Nat),f≤f'∧o'.out=o.out++O∧o'.steps≤o.steps+m*l.length∧e.run (f+l.length) 0 i tz 0 K o=e.run f' 0 (i+l.length) tz 0 K o'
theorem q0k (V:List UInt8) (Q:List Pc→Prop) (m i:Nat) (x:Sx):Seg V Q m i x [] [] x:=
 ⟨fun _=>rfl,fun _ hp=>(nomatch hp),fun _ _ _ _ _ _ _ _ _ o f _ _=>⟨o,f,Nat.le_refl _,(List.append_nil _).symm,Nat.le_add_right _ _,rfl⟩⟩
theorem qu9 {V:List UInt8} {Q:List Pc→Prop} {m i:Nat} {x y z:Sx} {l l':List Pt} {O O':List UInt8} (h:Seg V Q m i x l O y) (h':Seg V Q m (i+l.length) y l' O' z):Seg V Q m i x (l++l') (O++O') z:=by
 refine⟨fun B=>by rw[qcv,h.fold]; exact h'.fold B,fun p hp=>(List.mem_append.1 hp).elim (h.six p) (h'.six p),?_⟩
 intro e he B hl hm K hK tz hz o f hs hf
 rw[List.length_append]at hz hs
 rw[Nat.mul_add]at hs
 obtain⟨o1,f1,a1,a2,a3,a4⟩:=h.run e he B hl.head hm.head K hK tz (by omega) o (f+l'.length) (by omega) (by omega)
 obtain⟨o2,f2,b1,b2,b3,b4⟩:=h'.run e he B hl.tail (hm.tail (h.fold B)) K hK tz (by omega) o1 (f1 - l'.length) (by omega) (by omega)
 rw[show f1 - l'.length+l'.length=f1 by omega]at b4
 refine⟨o2,f2,by omega,by rw[b2,a2,List.append_assoc],by rw[List.length_append,Nat.mul_add]; omega,?_⟩
 rw[List.length_append,show f+(l.length+l'.length)=f+l'.length+l.length by omega,a4,b4,Nat.add_assoc]
theorem q0s {V:List UInt8} {e:Ev} (he:EOk V e) (o:Wt) (t:List UInt8):e.put o t=({ o with out:=o.out++t },0):=by
 unfold Ev.put
 rw[he.room,if_neg (by omega)]
theorem q23 (V:List UInt8) (Q:List Pc→Prop) (m i pos mt:Nat) (hm:1≤m) {x y:Sx} (u:List UInt8) (h:∀ B,tx u (x,B)=some (y,B)):Seg V Q m i x [⟨1,pos,u,mt⟩] u y:=by
 refine⟨fun B=>?_,fun p hp=>by rw[List.mem_singleton.1 hp]; simp,?_⟩
 ·have hB:=h B
  show (qbo x B ⟨1,pos,u,mt⟩).bind _=_
  unfold tx at hB
  unfold qbo
  rw[if_pos rfl]
  simp only at hB ⊢
  cases hs:qa2 x u with
  | some j=>rw[hs]at hB; cases hB
  | none=>rw[hs]at hB; exact hB
 ·intro e he B hl hmk K hK tz hz o f hs hf
  simp only[List.length_cons,List.length_nil,Nat.zero_add,Nat.mul_one]at hz hs ⊢
  have hp:=hl 0 _ rfl
  have:=qmb e f 0 i tz 0 K o (by omega) (by omega) _ hp ({ o with steps:=o.steps+1,out:=o.out++u },0) (i+1) (by rw[if_pos rfl,q0s he]) rfl
  refine⟨_,f,Nat.le_refl _,?_,?_,this.trans (if_neg (fun q=>q rfl))⟩
  ·rfl
  ·show o.steps+1≤_; omega
theorem q4a {V:List UInt8} {e:Ev} (he:EOk V e) {K:List Pc} (hK:KOk K) (o:Wt) (ao:Int) (ha:qgw ao=0):(e.hole K o [118] ao).2=0∧(e.hole K o [118] ao).1.out=o.out++qan ao V∧(e.hole K o [118] ao).1.steps=o.steps:=by
 unfold Ev.hole
 rw[if_neg (by rw[ha]; simp),he.data,q8d V K hK,q0s he]
 exact⟨rfl,rfl,rfl⟩
theorem q24 (V:List UInt8) (Q:List Pc→Prop) (hQ:∀ K,Q K→KOk K) (m i pos mt:Nat) (hm:1≤m) {x:Sx} (ao:Int) (h:x.hole=(ao,0)) (ha:qgw ao=0):Seg V Q m i x [⟨2,pos,[118],mt⟩] (qan ao V) x.behindHole:=by
 refine⟨fun B=>?_,fun p hp=>by rw[List.mem_singleton.1 hp]; simp,?_⟩
 ·show (qbo x B ⟨2,pos,[118],mt⟩).bind _=_
  unfold qbo
  rw[if_neg (by simp),if_pos rfl,if_pos (by rw[h])]
  rfl
 ·intro e he B hl hmk K hK tz hz o f hs hf
  simp only[List.length_cons,List.length_nil,Nat.zero_add,Nat.mul_one]at hz hs ⊢
  have hp:=hl 0 _ rfl
  have hmm:=hmk 0 _ (x,B) rfl rfl rfl
  rw[h,Nat.add_zero]at hmm
  obtain⟨q1,q2,q3⟩:=q4a he (hQ K hK) { o with steps:=o.steps+1 } ao ha
  have:=qmb e f 0 i tz 0 K o (by omega) (by omega) _ hp (e.hole K { o with steps:=o.steps+1 } [118] ao) (i+1) (by rw[hmm,if_neg (by simp),if_pos rfl]) rfl
  rw[if_neg (fun q=>q q1)]at this
  exact⟨_,f,Nat.le_refl _,q2,by rw[q3]; show o.steps+1≤_; omega,this⟩
def q5g (V:List UInt8) (e:Ev) (n:Nat) (O:List UInt8) (body:List Pc→Wt→Wt×Int):Prop:=
 ∀ K,KOk K→∀ o:Wt,o.steps+(n+1)≤5000→(body K o).2=0∧(body K o).1.out=o.out++O∧(body K o).1.steps≤o.steps+(n+1)∧EOk V e
def q2o (V:List UInt8) (k:Nat) (nm:List UInt8) (r:Nat) (F:List UInt8→List UInt8):Prop:=
 ∀(e:Ev),EOk V e→∀(n:Nat) (O:List UInt8) (body:List Pc→Wt→Wt×Int),q5g V e n O body→∀(o:Wt),o.steps+r*(n+1)≤5000 →
  (e.section body [some 0] k nm o).2=0∧(e.section body [some 0] k nm o).1.out=o.out++F O∧(e.section body [some 0] k nm o).1.steps≤o.steps+r*(n+1)
theorem q8p (V:List UInt8):q2o V 3 [121] 2 (fun O=>O++O):=by
 intro e he n O body hb o hs
 have h1:qoz (qbb e.D (qds e.D [some 0] [121]))=false:=by rw[he.data]; rfl
 have h2:qj9 e.D (qds e.D [some 0] [121])=[some 4,some 5]:=by rw[he.data]; rfl
 unfold Ev.section
 rw[h1,h2,if_neg (by decide),if_neg (by omega)]
 obtain⟨a1,a2,a3,_⟩:=hb [some 4,some 0] (.inr (.inl rfl)) o (by omega)
 obtain⟨b1,b2,b3,_⟩:=hb [some 5,some 0] (.inr (.inr rfl)) (body [some 4,some 0] o).1 (by omega)
 unfold qcj
 rw[if_neg (by rw[a1]; simp)]
 unfold qcj
 rw[if_neg (by rw[b1]; simp)]
 unfold qcj
 refine⟨rfl,?_,by show (body [some 5,some 0] (body [some 4,some 0] o).1).1.steps≤_; omega⟩
 show (body [some 5,some 0] (body [some 4,some 0] o).1).1.out=_
 rw[b2,a2,List.append_assoc]
theorem q7p (V:List UInt8):q2o V 4 [110] 2 (fun O=>O):=by
 intro e he n O body hb o hs
 have h1:qoz (qbb e.D (qds e.D [some 0] [110]))=true:=by rw[he.data]; rfl
 unfold Ev.section
 rw[h1,if_neg (by decide),if_pos rfl]
 obtain⟨a1,a2,a3,_⟩:=hb [some 0] (.inl rfl) o (by omega)
 exact⟨a1,a2,by omega⟩
theorem q8q (V:List UInt8):q2o V 3 [110] 2 (fun _=>[]):=by
 intro e he n O body hb o hs
 have h1:qoz (qbb e.D (qds e.D [some 0] [110]))=true:=by rw[he.data]; rfl
 unfold Ev.section
 rw[h1,if_pos (by decide)]
 exact⟨rfl,(List.append_nil _).symm,Nat.le_add_right _ _⟩
theorem q52 {V:List UInt8} {k:Nat} (hk:k=3∨k=4) {nm:List UInt8} {F:List UInt8→List UInt8} (hS:q2o V k nm 2 F) {i:Nat} {x:Sx} {b:List Pt} {O:List UInt8} (hb:Seg V KOk 1 (i+1) x b O x) (pos:Nat) (q:Pt) (hq:q.kind=5) :
  Seg V KTop 2 i x (⟨k,pos,nm,i+1+b.length⟩::b++[q]) (F O) x:=by
 have hlen:(⟨k,pos,nm,i+1+b.length⟩::b++[q]:List Pt).length=b.length+2:=by simp
 have hopen:∀ B,qbr [⟨k,pos,nm,i+1+b.length⟩] x B=some (x,B++[x]):=fun B=>by
  show (qbo x B ⟨k,pos,nm,i+1+b.length⟩).bind _=_
  unfold qbo
  rw[if_neg (by show k≠1; omega),if_neg (by show k≠2; omega),if_pos hk]
  rfl
 refine⟨fun B=>?_,?_,?_⟩
 ·rw[show (⟨k,pos,nm,i+1+b.length⟩::b++[q]:List Pt)=[⟨k,pos,nm,i+1+b.length⟩]++(b++[q]) from rfl,qcv,hopen]
  show qbr (b++[q]) x (B++[x])=_
  rw[qcv,hb.fold]
  show (qbo x (B++[x]) q).bind _=_
  unfold qbo
  rw[if_neg (by omega),if_neg (by omega),if_neg (by omega),if_pos hq,List.getLast?_concat]
  simp[qbr]
 ·intro p hp
  rcases List.mem_append.1 hp with hp | hp
  ·rcases List.mem_cons.1 hp with rfl | hp
   ·show k≠6; omega
   ·exact hb.six p hp
  ·rw[List.mem_singleton.1 hp]; omega
 ·intro e he B hl hm K hK tz hz o f hs hf
  rw[hlen]at hz hs ⊢
  have hp:=hl 0 _ rfl
  have hl1:Lies e (i+1) b:=by
   have:=Lies.tail (l:=[⟨k,pos,nm,i+1+b.length⟩]) (m:=b++[q]) hl
   exact this.head
  have hm1:Mks e (i+1) x (B++[x]) b:=by
   have:=Mks.tail (l:=[⟨k,pos,nm,i+1+b.length⟩]) (m:=b++[q]) hm (hopen B)
   exact this.head
  have hB:∀ f,1≤f→b.length≤f - 1→q5g V e b.length O (fun K o=>qc1 (e.run f 0 (i+1) (i+1+b.length) 0 K) o):=by
   intro f hf1 hf2 K hK o hs
   obtain⟨o',f',c1,c2,c3,c4⟩:=hb.run e he (B++[x]) hl1 hm1 K hK (i+1+b.length) (Nat.le_refl _) { o with steps:=o.steps+1 } (f - b.length) (by show o.steps+1+_≤_; omega) (by omega)
   rw[show f - b.length+b.length=f by omega]at c4
   have hend:e.run f' 0 (i+1+b.length) (i+1+b.length) 0 K o'=(o',0):=by
    obtain⟨g,rfl⟩:∃ g,f'=g+1:=⟨f' - 1,by omega⟩
    unfold Ev.run
    rw[if_pos (Nat.le_refl _)]
   have e1:qc1 (e.run f 0 (i+1) (i+1+b.length) 0 K) o=(o',0):=by
    unfold qc1
    rw[if_neg (by omega),c4,hend]
   refine⟨congrArg (·.2) e1,?_,?_,he⟩
   ·rw[congrArg (fun r=>r.1.out) e1]; exact c2
   ·rw[congrArg (fun r=>r.1.steps) e1]
    show o'.steps≤_
    have:o'.steps≤o.steps+1+1*b.length:=c3
    omega
  have hKe:K=[some 0]:=hK
  obtain⟨r1,r2,r3⟩:=hS e he b.length O _ (hB (f+b.length+1) (by omega) (by omega)) { o with steps:=o.steps+1 } (by show o.steps+1+_≤_; omega)
  have:=qmb e (f+b.length+1) 0 i tz 0 K o (by omega) (by omega) _ hp (e.section (fun K o=>qc1 (e.run (f+b.length+1) 0 (i+1) (i+1+b.length) 0 K) o) K k nm { o with steps:=o.steps+1 }) (i+1+b.length+1)
   (by rw[if_neg (by show k≠1; omega),if_neg (by show k≠2; omega),if_pos hk]) (by rw[if_pos hk])
  rw[hKe]at this ⊢
  rw[if_neg (fun q=>q r1)]at this
  refine⟨_,f+b.length+1,by omega,r2,?_,?_⟩
  ·have:(e.section (fun K o=>qc1 (e.run (f+b.length+1) 0 (i+1) (i+1+b.length) 0 K) o) [some 0] k nm { o with steps:=o.steps+1 }).1.steps≤o.steps+1+2*(b.length+1):=r3
   omega
  ·rw[show f+(b.length+2)=f+b.length+1+1 by omega,this,show i+1+b.length+1=i+(b.length+2) by omega]
end Go.Proofs.YtfkhljmiehdgmaaGreatDoor.Pl
