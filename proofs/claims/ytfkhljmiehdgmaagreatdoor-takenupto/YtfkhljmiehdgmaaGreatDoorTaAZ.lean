/-
  Steps of the proof (texts laid together, blanks left out): PnR, PnNb, PnS, PnSa.
-/
import Derived.Deep.DeepCutAuto
import Derived.Test.YtfkhljmiehdgmaaGreatDoorTaAY
import Derived.Test.YtfkhljmiehdgmaaGreatDoorTaAX
namespace Go.Proofs.YtfkhljmiehdgmaaGreatDoor
open Go.RowKit
set_option maxRecDepth 100000 in
set_option maxHeartbeats 12800000 in
theorem q3o (HB:qgn) (S:List Pl.Src) (hS:SrcsOk S) (k:Nat) (HT:ThrC S k) (w:World) (B:Nat) (F:Fix) (vv:Value) (M:List Nat) (s:Pl.Sr) (n:List UInt8) (x:Pl.Sx) (h:SvAt w B F S vv M s) (hI:Pl.Inv S s) (h1:1≤s.nums.length) (hk:258≤s.nums.length+k) (hx:Pl.SxFit x) (hn:n.length≤2000) (ht:TabB B w) :
  Calls Tryz.prog 110 #[.pointer (some ⟨F.g,0,none⟩),.string ⟨n.toArray⟩,qad x] w fun ed w'=>ed=.returned (.tuple #[.int .i64 ((Pl.nmV S k s n x).2.1:Nat),qad (Pl.nmV S k s n x).2.2])∧(∃ vv' ext,SvAt w' B F S vv' (M++ext) (Pl.nmV S k s n x).1)∧Cuv B F w w':=by
 have hB:B≤w.heap.size:=by
  have q1:=h.se.le.1
  have q2:=(Array.getElem?_eq_some_iff.1 h.se.blk).1
  omega
 have hBeh:=fun(w5:World) (h5:SvAt w5 B F S vv M s) (ht5:TabB B w5)=>behC HB S hS 257 w5 B F vv s n x h5.se hI.ends (by omega) hx hn ht5
 obtain⟨g1,g2⟩:=Pl.qiu S 257 0 (by omega) s n x hI.ends (Nat.zero_le _) hx
 obtain⟨i1,i2⟩:=hI.grew g1
 have hpre:=fun q0 qf qz=>Pl.q00 (n:=n) hI h1 hx q0 qf qz
 have hnm:Pl.nmV S k s n x=if Pl.qag S n=0∨(Pl.behV S 257 s n x).1.fault.code≠0 then((Pl.behV S 257 s n x).1,0,(Pl.behV S 257 s n x).2)
  else if Pl.qgc (Pl.behV S 257 s n x).1 (Pl.qag S n,x)=0 then(Pl.qdk S k (Pl.behV S 257 s n x).1 (Pl.qag S n,x),Pl.qgc (Pl.qdk S k (Pl.behV S 257 s n x).1 (Pl.qag S n,x)) (Pl.qag S n,x),(Pl.behV S 257 s n x).2)
  else((Pl.behV S 257 s n x).1,Pl.qgc (Pl.behV S 257 s n x).1 (Pl.qag S n,x),(Pl.behV S 257 s n x).2):=rfl
 generalize Pl.nmV S k s n x=res at hnm ⊢
 generalize Pl.behV S 257 s n x=r at *
 obtain⟨s1,y⟩:=r
 simp only at hBeh g1 g2 i1 i2 hpre hnm
 have hlim:∀(w5:World) (B:Nat) (F:Fix) (vv:Value),SeAt w5 B F S vv s1→(Instr.lookup 174 (.map (some F.bp)) (.string ⟨n.toArray⟩) false).run Tryz.prog w5=.ok (.int .i64 (Pl.qag S n:Nat)) w5:=fun w5 B F vv h5=>h5.place hS n (by omega)
 have hi6:Pl.qag S n≤6:=by
  by_cases q:Pl.qag S n=0
  ·omega
  ·have:=Pl.qen S n q; have:=hS.few; omega
 have HT2:=fun(w5:World) (vv5:Value) (M5:List Nat) (h5:SvAt w5 B F S vv5 M5 s1) (hp:Pl.Pre S s1 (Pl.qag S n,x)) (ht5:TabB B w5)=>HT w5 B F vv5 M5 s1 (Pl.qag S n,x) h5 hp (by rw[g1.nums]; omega) ht5
 have hthr:=fun hp=>Pl.ql6 S k s1 (Pl.qag S n,x) hp (by rw[g1.nums]; omega)
 generalize hi:Pl.qag S n=i at *
 generalize (⟨n.toArray⟩:ByteArray)=N at hBeh hlim ⊢
 unfold qad qab bs at hBeh
 have HBh:=(show Hid _ from hBeh)
 have HNm:=(show Hid _ from hnm)
 have HPre:=(show Hid _ from hpre)
 have HThr:=(show Hid _ from HT2)
 have HTok:=(show Hid _ from hthr)
 have HI1:=(show Hid _ from i1)
 have HS:=(show Hid _ from h)
 have HPl:=(show Hid _ from hlim)
 have HG:=(show Hid _ from g1)
 have HB8:Hid (∀ o o' w2,SeAt w2 B F S vv s1→Cue B F ((w.alloc o).alloc o') w2→SvAt w2 B F S vv M s1∧Cuv B F w w2∧TabB B w2):=fun o o' w2 hse hcu=>by
  have q1:=((h.alloc o).alloc o')
  have q2:Below w.heap.size w ((w.alloc o).alloc o'):=((Below.refl _ _).alloc (Nat.le_refl _) _).alloc (by simp) _
  exact⟨q1.turn hse hcu g1.nums g1.vis,(Cuv.of_below q2 hB).trans (Cuv.of_cue q1.se hcu),(ht.kept (q2.mono hB)).kept hcu.below⟩
 clear h hBeh hnm hpre HT2 hthr i1 i2 g1 hlim hI hk h1
 unfold qad
 unfold qab bs
 go_enter Tryz.func110,Tryz.ntmps110
 go_wp2_with (go_at_call 156; refine(HBh.out _ ((HS.out.alloc _).alloc _) (ht.kept (((Below.refl _ _).alloc hB _).alloc (by simp; omega) _))).mono ?_; rintro e w2 ⟨rfl,hse,hcu⟩)
 have H8:=(show Hid _ from HB8.out _ _ w2 hse hcu)
 have hx0:StIn w2 w.heap.size x:=(hcu.keep w.heap.size (by simp; omega) (fun q=>by have:=(Array.getElem?_eq_some_iff.1 HS.out.se.blk).1; omega) (fun q=>by have:=HS.out.se.ends.lt; omega)).trans ((heap_alloc_old _ _ (by simp)).trans (heap_alloc_new w _))
 have hr0:StIn w2 (w.heap.size+1) Pl.Sx.none:=(hcu.keep (w.heap.size+1) (by simp) (fun q=>by have:=(Array.getElem?_eq_some_iff.1 HS.out.se.blk).1; omega) (fun q=>by have:=HS.out.se.ends.lt; omega)).trans (qas (w.alloc _) _ _ (by simp))
 have hlt2:w.heap.size+1<w2.heap.size:=hr0.lt
 have H3:Hid (SvAt (w2.alloc (.cells (qab y) 162)) B F S vv M s1∧StIn (w2.alloc (.cells (qab y) 162)) w2.heap.size y∧StIn (w2.alloc (.cells (qab y) 162)) (w.heap.size+1) Pl.Sx.none∧StIn (w2.alloc (.cells (qab y) 162)) w.heap.size x∧Cuv B F w (w2.alloc (.cells (qab y) 162))∧TabB B (w2.alloc (.cells (qab y) 162))):=by
  have hb:=(Below.refl w2.heap.size w2).alloc (Nat.le_refl _) (.cells (qab y) 162)
  have hBw:B≤w2.heap.size:=Nat.le_trans hB H8.out.2.1.below.size
  exact⟨H8.out.1.alloc _,heap_alloc_new w2 _,hr0.below hb,hx0.below hb,H8.out.2.1.trans (Cuv.of_below hb hBw),H8.out.2.2.kept (hb.mono hBw)⟩
 have hne:w2.heap.size≠w.heap.size+1:=by omega
 unfold qab bs at H3
 clear hse hcu H8 hx0 hr0 hlt2
 generalize hG:w2.heap.size=G at *
 generalize World.alloc w2 _=w3 at H3 ⊢
 clear hG
 have b1:w3.cell? ⟨F.g,1,none⟩=some (.map (some F.bp)):=H3.out.1.se.cell 1 _ rfl
 have b2:∀ o,(w3.alloc o).cell? ⟨F.g,1,none⟩=some (.map (some F.bp)):=fun o=>(H3.out.1.se.alloc o).cell 1 _ rfl
 have l1:=HPl.out w3.drew B F vv H3.out.1.se.drew
 have l2:=fun o=>HPl.out (w3.alloc o).drew B F vv (H3.out.1.se.alloc o).drew
 have hq:=H3.out.2.2.2.1.at'
 have hq2:=fun o=>(H3.out.2.2.2.1.below ((Below.refl _ _).alloc (Nat.le_refl _) o)).at'
 have q0:=hq.mode
 have q1:=hq.name
 have q2:=hq.elem
 have q3:=hq.kind
 have q4:=hq.read
 have q5:=hq.ref
 have q6:=hq.esc
 have q7:=hq.hex
 have q8:=hq.pct
 have q9:=hq.far
 have g0:=fun o=>(hq2 o).mode
 have g1:=fun o=>(hq2 o).name
 have g2:=fun o=>(hq2 o).elem
 have g3:=fun o=>(hq2 o).kind
 have g4:=fun o=>(hq2 o).read
 have g5:=fun o=>(hq2 o).ref
 have g6:=fun o=>(hq2 o).esc
 have g7:=fun o=>(hq2 o).hex
 have g8:=fun o=>(hq2 o).pct
 have g9:=fun o=>(hq2 o).far
 clear hq hq2
 go_region
 clear b1 b2 l1 l2 q0 q1 q2 q3 q4 q5 q6 q7 q8 q9 g0 g1 g2 g3 g4 g5 g6 g7 g8 g9
 have H4:Hid (Nmi w ((w3.alloc (.cells (qak (i,x)) 180)).drew) B F S vv M s1 G y (w.heap.size+1) Pl.Sx.none w3.heap.size (i,x)):=by
  have hb:=((Below.refl w3.heap.size w3).alloc (Nat.le_refl _) (.cells (qak (i,x)) 180)).drew
  have hBw:B≤w3.heap.size:=Nat.le_trans hB H3.out.2.2.2.2.1.below.size
  exact⟨H3.out.1.below hb,H3.out.2.1.below hb,H3.out.2.2.1.below hb,hne,heap_alloc_new w3 _,⟨by omega,hB⟩,H3.out.2.2.2.2.1.trans (Cuv.of_below hb hBw),H3.out.2.2.2.2.2.kept (hb.mono hBw)⟩
 unfold qak bs at H4
 clear H3
 generalize hE:w3.heap.size=E at *
 generalize World.drew _=w4 at H4 ⊢
 clear hE
 have he:=qca H4.out.ent
 unfold qak bs at he
 have hf:=H4.out.end'.at'
 have hr:=H4.out.res
 have m0:=he 0 _ rfl
 have m1:=he 1 _ rfl
 have m2:=he 2 _ rfl
 have m3:=he 3 _ rfl
 have m4:=he 4 _ rfl
 have m5:=he 5 _ rfl
 have m6:=he 6 _ rfl
 have m7:=he 7 _ rfl
 have m8:=he 8 _ rfl
 have m9:=he 9 _ rfl
 have m10:=he 10 _ rfl
 have q0:=hf.mode
 have q1:=hf.name
 have q2:=hf.elem
 have q3:=hf.kind
 have q4:=hf.read
 have q5:=hf.ref
 have q6:=hf.esc
 have q7:=hf.hex
 have q8:=hf.pct
 have q9:=hf.far
 have r0:=hr.at'.mode
 have r1:=hr.at'.name
 have r2:=hr.at'.elem
 have r3:=hr.at'.kind
 have r4:=hr.at'.read
 have r5:=hr.at'.ref
 have r6:=hr.at'.esc
 have r7:=hr.at'.hex
 have r8:=hr.at'.pct
 have r9:=hr.at'.far
 have f0:=hr.slot.thaw 0
 have f1:=hr.slot.thaw 1
 have f2:=hr.slot.thaw 2
 have f3:=hr.slot.thaw 3
 have f4:=hr.slot.thaw 4
 have f5:=hr.slot.thaw 5
 have f6:=hr.slot.thaw 6
 have f7:=hr.slot.thaw 7
 have f8:=hr.slot.thaw 8
 have f9:=hr.slot.thaw 9
 clear he hf hr
 have b5:w4.cell? ⟨F.g,5,none⟩=some (.int .i64 (s1.fault.code:Nat)):=H4.out.sv.se.cell 5 _ rfl
 by_cases hA:i=0
 ·have hR:res=(s1,0,y):=by rw[HNm.out,if_pos (.inl hA)]
  have i0:((i:Int)==0)=true:=by rw[beq_iff_eq]; omega
  have HF:=(show Hid _ from(H4.out.set y).drew)
  clear HNm HPre HThr HTok
  subst hR
  unfold qcn at HF
  go_wp2_with fail
  go_region
  go_wp2_with fail
  refine Nmi.post (ext:=[]) (by rw[List.append_nil]; exact HF.out) ?_ ?_ ?_
  all_goals rfl
 have i0:((i:Int)==0)=false:=by rw[beq_eq_false_iff_ne]; omega
 by_cases hB5:s1.fault.code≠0
 ·have hR:res=(s1,0,y):=by rw[HNm.out,if_pos (.inr hB5)]
  have f0:((s1.fault.code:Int)==0)=false:=by rw[beq_eq_false_iff_ne]; omega
  have HF:=(show Hid _ from(H4.out.set y).drew)
  clear HNm HPre HThr HTok
  subst hR
  generalize (s1.fault.code:Int)=fc at b5 f0
  unfold qcn at HF
  go_wp2_with fail
  go_region
  go_wp2_with fail
  refine Nmi.post (ext:=[]) (by rw[List.append_nil]; exact HF.out) ?_ ?_ ?_
  all_goals rfl
 have hf0:s1.fault.code=0:=by omega
 rw[hf0]at b5
 have b3:w4.cell? ⟨F.g,3,none⟩=some (.map (some F.bn)):=H4.out.sv.se.cell 3 _ rfl
 have l5:=qnk H4.out.sv.drew.nums ⟨HI1.out.key,HI1.out.one⟩ hS.few.2 (i,x) hx hi6
 simp only[qbh]at l5
 unfold qak bs at l5
 simp only at l5
 have hnum:(Pl.qa7 s1.nums (i,x)).getD 0=Pl.qgc s1 (i,x):=rfl
 rw[hnum]at l5
 by_cases hz:Pl.qgc s1 (i,x)=0
 rotate_left
 ·have hR:res=(s1,Pl.qgc s1 (i,x),y):=by rw[HNm.out,if_neg (by simp[hA,hf0]),if_neg hz]
  have z0:((Pl.qgc s1 (i,x):Int)==0)=false:=by rw[beq_eq_false_iff_ne]; omega
  have HF:=(show Hid _ from((H4.out.set y).drew.drew))
  clear HNm HPre HThr HTok hnum hz
  subst hR
  have l6:=qnk H4.out.drew.sv.drew.nums ⟨HI1.out.key,HI1.out.one⟩ hS.few.2 (i,x) hx hi6
  simp only[qbh]at l6
  unfold qak bs at l6
  simp only at l6
  have hnum:(Pl.qa7 s1.nums (i,x)).getD 0=Pl.qgc s1 (i,x):=rfl
  rw[hnum]at l6
  clear hnum
  unfold qcn at HF
  go_wp2_with fail
  go_region
  go_wp2_with fail
  go_region
  go_wp2_with fail
  refine Nmi.post (ext:=[]) (by rw[List.append_nil]; exact HF.out) ?_ ?_ ?_
  all_goals rfl
 have hp:Pl.Pre S s1 (i,x):=HPre.out hA hf0 hz
 have hR:res=(Pl.qdk S k s1 (i,x),Pl.qgc (Pl.qdk S k s1 (i,x)) (i,x),y):=by rw[HNm.out,if_neg (by simp[hA,hf0]),if_pos hz]
 rw[hz]at l5
 have hT1:=HThr.out w4.drew vv M H4.out.drew.sv hp H4.out.drew.tabs
 have hok2:=HTok.out hp
 clear HNm HPre HThr HTok hnum hz hp
 subst hR
 obtain⟨s2,hs2⟩:∃ s2,s2=Pl.qdk S k s1 (i,x):=⟨_,rfl⟩
 rw[← hs2]at hT1 hok2
 have HS2:=(show Hid _ from hs2)
 clear hs2
 have hl6:∀(w5:World) (vv5:Value) (M5:List Nat),SvAt w5 B F S vv5 M5 s2→(Instr.lookup 176 (.map (some F.bn)) (qfh (i,x)) false).run Tryz.prog w5=.ok (.int .i64 (Pl.qgc s2 (i,x):Nat)) w5:=fun w5 vv5 M5 h5=>qnk h5.nums ⟨hok2.1.key,hok2.1.one⟩ hS.few.2 (i,x) hx hi6
 simp only[qbh]at hT1 hl6
 unfold qak bs at hT1 hl6
 simp only at hT1 hl6
 have HT1:=(show Hid _ from hT1)
 have HL6:=(show Hid _ from hl6)
 clear hT1 hl6 hok2
 go_wp2_with fail
 go_region
 go_wp2_with (go_at_call 75; refine Calls.mono HT1.out ?_; rintro e w6 ⟨⟨rr,rfl⟩,⟨vv6,ext,hsv⟩,hcu⟩)
 have H6:=(show Hid _ from H4.out.drew.turn hsv hcu)
 clear hsv hcu b3 b5 l5 m0 m1 m2 m3 m4 m5 m6 m7 m8 m9 m10 q0 q1 q2 q3 q4 q5 q6 q7 q8 q9 r0 r1 r2 r3 r4 r5 r6 r7 r8 r9 f0 f1 f2 f3 f4 f5 f6 f7 f8 f9
 have b3:w6.cell? ⟨F.g,3,none⟩=some (.map (some F.bn)):=H6.out.sv.se.cell 3 _ rfl
 have l7:=HL6.out w6.drew vv6 (M++ext) H6.out.sv.drew
 have he:=qca H6.out.ent
 unfold qak bs at he
 have hf:=H6.out.end'.at'
 have hr:=H6.out.res
 have m0:=he 0 _ rfl
 have m1:=he 1 _ rfl
 have m2:=he 2 _ rfl
 have m3:=he 3 _ rfl
 have m4:=he 4 _ rfl
 have m5:=he 5 _ rfl
 have m6:=he 6 _ rfl
 have m7:=he 7 _ rfl
 have m8:=he 8 _ rfl
 have m9:=he 9 _ rfl
 have m10:=he 10 _ rfl
 have q0:=hf.mode
 have q1:=hf.name
 have q2:=hf.elem
 have q3:=hf.kind
 have q4:=hf.read
 have q5:=hf.ref
 have q6:=hf.esc
 have q7:=hf.hex
 have q8:=hf.pct
 have q9:=hf.far
 have r0:=hr.at'.mode
 have r1:=hr.at'.name
 have r2:=hr.at'.elem
 have r3:=hr.at'.kind
 have r4:=hr.at'.read
 have r5:=hr.at'.ref
 have r6:=hr.at'.esc
 have r7:=hr.at'.hex
 have r8:=hr.at'.pct
 have r9:=hr.at'.far
 have f0:=hr.slot.thaw 0
 have f1:=hr.slot.thaw 1
 have f2:=hr.slot.thaw 2
 have f3:=hr.slot.thaw 3
 have f4:=hr.slot.thaw 4
 have f5:=hr.slot.thaw 5
 have f6:=hr.slot.thaw 6
 have f7:=hr.slot.thaw 7
 have f8:=hr.slot.thaw 8
 have f9:=hr.slot.thaw 9
 clear he hf hr
 have HF:=(show Hid _ from(H6.out.set y).drew)
 rw[HS2.out]at HF l7
 unfold qcn at HF
 go_wp2_with fail
 go_region
 go_wp2_with fail
 refine Nmi.post (ext:=ext) HF.out ?_ ?_ ?_
 all_goals rfl
end Go.Proofs.YtfkhljmiehdgmaaGreatDoor
namespace Go.Proofs.YtfkhljmiehdgmaaGreatDoor
open Go.RowKit Go.Maps
set_option maxRecDepth 100000 in
set_option maxHeartbeats 6400000 in
theorem qzv (S:List Pl.Src) (hS:SrcsOk S) (w:World) (B:Nat) (F:Fix) (vv:Value) (M:List Nat) (s:Pl.Sr) (e:Pl.En) (h:SvAt w B F S vv M s) (hN:NumsOk S.length s.nums) (hi:e.1<S.length) (he:Pl.SxFit e.2) (hl:s.vis.length≤1000) (hB:B≤w.heap.size) :
  Calls Tryz.prog 105 #[.pointer (some ⟨F.g,0,none⟩),qfh e] w fun ed w'=>∃ g vv',ed=.returned (.tuple #[F.pv e.1,.slice (some ⟨g,0,none⟩) (Pl.qaj S e.1).length (Pl.qaj S e.1).length])∧SvAt w' B F S vv' (M++[g]) (Pl.begun S s e)∧Cuv B F w w'∧w.heap.size≤g:=by
 obtain⟨src,hsrc⟩:∃ src,S[e.1]?=some src:=⟨S[e.1],List.getElem?_eq_getElem hi⟩
 have hP:Pl.qaj S e.1=src.parts:=by unfold Pl.qaj; rw[hsrc]
 have hpl:=(hS.parts e.1 src hsrc).1
 obtain⟨ao,cap,hv⟩:=qcd (h.se.src.row e.1 src hsrc)
 have b0:∀ o,(w.alloc o).cell? ⟨F.g,0,none⟩=some (.slice (some ⟨F.bS,0,none⟩) S.length S.length):=fun o=>(h.se.alloc o).cell 0 _ rfl
 have b1:∀ o,(w.alloc o).cell? ⟨F.bS,e.1*2+1,none⟩=some (.slice ao src.parts.length cap):=fun o=>((h.se.alloc o).src.slice e.1 src hsrc).trans (by rw[hv])
 have b2:∀ o o',((w.alloc o).alloc o').cell? ⟨F.g,0,none⟩=some (.slice (some ⟨F.bS,0,none⟩) S.length S.length):=fun o o'=>((h.se.alloc o).alloc o').cell 0 _ rfl
 have b3:∀ o o',((w.alloc o).alloc o').cell? ⟨F.bS,e.1*2+1,none⟩=some (.slice ao src.parts.length cap):=fun o o'=>(((h.se.alloc o).alloc o').src.slice e.1 src hsrc).trans (by rw[hv])
 have b4:∀ o o' o'',(((w.alloc o).alloc o').alloc o'').cell? ⟨F.g,0,none⟩=some (.slice (some ⟨F.bS,0,none⟩) S.length S.length):=fun o o' o''=>(((h.se.alloc o).alloc o').alloc o'').cell 0 _ rfl
 have b5:∀ o o' o'',(((w.alloc o).alloc o').alloc o'').cell? ⟨F.bS,e.1*2+1,none⟩=some (.slice ao src.parts.length cap):=fun o o' o''=>((((h.se.alloc o).alloc o').alloc o'').src.slice e.1 src hsrc).trans (by rw[hv])
 have c1:(e.1:Int)<(S.length:Int):=by omega
 have hmk:=run_make_row' (P:=Tryz.prog) 36 3 (.int .i64 0) 8 Tryz.underlying36 q37 rfl .i64 .i64 src.parts.length (by omega) (by omega)
 rw[hP,qbh]
 unfold qak bs
 have HA:Hid (Vis1 w (((w.alloc (.cells #[.int .i64 e.1,.int .u8 (e.2.st.mode:Int),.string ⟨e.2.st.name.toArray⟩,.string ⟨e.2.st.elem.toArray⟩,.int .i64 e.2.st.kind,.int .i64 (e.2.st.read:Int),.bool e.2.ma.ref,.bool e.2.st.esc,.int .i64 e.2.ma.hex,.int .i64 e.2.ma.pct,.int .i64 e.2.ma.far] 180)).alloc (.cells (madeCells #[.int .i64 0] src.parts.length) 3)).alloc (.cells #[.slice ao src.parts.length cap,.slice (some ⟨w.heap.size+1,0,none⟩) src.parts.length src.parts.length] 205)).drew B F S vv M s e src.parts.length (w.heap.size+1+1) (w.heap.size+1)):=by
  have hb:=((((Below.refl w.heap.size w).alloc (Nat.le_refl _) (.cells (qak e) 180)).alloc (by simp) (.cells (madeCells #[.int .i64 0] src.parts.length) 3)).alloc (by simp; omega) (.cells #[.slice ao src.parts.length cap,.slice (some ⟨w.heap.size+1,0,none⟩) src.parts.length src.parts.length] 205)).drew
  refine⟨h.below hb,(heap_alloc_old _ _ (by simp; omega)).trans ((heap_alloc_old _ _ (by simp)).trans (heap_alloc_new w _)),?_,?_,by omega,hb⟩
  ·rw[← hv]; exact qas (World.alloc (w.alloc _) _) _ _ (by simp)
  ·rw[← qpl]; exact(heap_alloc_old _ _ (by simp)).trans (qas (w.alloc _) _ _ (by simp))
 have HBB:Hid (Vis1 w (((w.alloc (.cells #[.int .i64 e.1,.int .u8 (e.2.st.mode:Int),.string ⟨e.2.st.name.toArray⟩,.string ⟨e.2.st.elem.toArray⟩,.int .i64 e.2.st.kind,.int .i64 (e.2.st.read:Int),.bool e.2.ma.ref,.bool e.2.st.esc,.int .i64 e.2.ma.hex,.int .i64 e.2.ma.pct,.int .i64 e.2.ma.far] 180)).alloc (.cells #[.slice ao src.parts.length cap,.slice (some ⟨w.heap.size+1+1,0,none⟩) src.parts.length src.parts.length] 205)).alloc (.cells (madeCells #[.int .i64 0] src.parts.length) 3)).drew B F S vv M s e src.parts.length (w.heap.size+1) (w.heap.size+1+1)):=by
  have hb:=((((Below.refl w.heap.size w).alloc (Nat.le_refl _) (.cells (qak e) 180)).alloc (by simp) (.cells #[.slice ao src.parts.length cap,.slice (some ⟨w.heap.size+1+1,0,none⟩) src.parts.length src.parts.length] 205)).alloc (by simp; omega) (.cells (madeCells #[.int .i64 0] src.parts.length) 3)).drew
  refine⟨h.below hb,(heap_alloc_old _ _ (by simp; omega)).trans ((heap_alloc_old _ _ (by simp)).trans (heap_alloc_new w _)),?_,?_,by omega,hb⟩
  ·rw[← hv]; exact(heap_alloc_old _ _ (by simp)).trans (qas (w.alloc _) _ _ (by simp))
  ·rw[← qpl]; exact qas (World.alloc (w.alloc _) _) _ _ (by simp)
 obtain⟨av,cv,hvv⟩:=qcd h.row
 have hMlt:∀ g∈M,g<w.heap.size:=fun g hg=>by
  obtain⟨k,hk⟩:=List.getElem?_of_mem hg
  have hkl:k<s.vis.length:=by rw[← h.len]; exact(List.getElem?_eq_some_iff.1 hk).1
  exact(Array.getElem?_eq_some_iff.1 (h.marks k g _ hk (List.getElem?_eq_getElem hkl)).1).1
 have HM:=(show Hid _ from hMlt)
 have HRow:=(show Hid _ from fun k hk=>(h.row.lt k hk).2)
 have HPV:=(show Hid _ from hv)
 have HSrc:=(show Hid _ from hsrc)
 obtain⟨i0,hi0,hz0,hz1,hz2⟩:=info_parts qy4
 have hSw:=Cuv.refl B F w
 clear h hMlt
 go_enter Tryz.func105,Tryz.ntmps105
 go_wp2_with fail
 go_cut [6] (fun s6 wx=>∃ gV gM,s6=.pointer (some ⟨gV,0,none⟩)∧Hid (Vis1 w wx B F S vv M s e src.parts.length gV gM))
 case first=>
  go_region
  all_goals
   go_wp2_with fail
   go_meet
   case rel=>first | exact⟨_,_,rfl,HA.out⟩ | exact⟨_,_,rfl,HBB.out⟩
 case rest=>
  obtain⟨gV,gM,rfl,H1⟩:=hcut
  clear HA HBB b0 b1 b2 b3 b4 b5 hmk c1
  have hne:gM∉M:=fun hm=>by have:=HM.out gM hm; have:=H1.out.old.2; omega
  have HNE:=(show Hid _ from hne)
  obtain⟨w5,hrun,hm5,hg5,hsz⟩:=qyi H1.out.sv.drew.nums hN hS.few.2 e he (by have:=hS.few.2; omega) s.vis.length
  have h5:=H1.out.sv.drew.numsPut hm5 hg5
  have hB5:B≤w5.heap.size:=by
   have h1:=H1.out.below.size
   have h2:wc.drew.heap.size=wc.heap.size:=rfl
   omega
  clear hsz
  simp only[qbh]at hrun
  unfold qak bs at hrun
  have b3:wc.cell? ⟨F.g,3,none⟩=some (.map (some F.bn)):=H1.out.sv.se.cell 3 _ rfl
  have b4:wc.cell? ⟨F.g,4,none⟩=some (.slice av s.vis.length cv):=(H1.out.sv.se.cell 4 _ rfl).trans (by rw[hvv]; rfl)
  have hc:=qca H1.out.ent
  unfold qak bs at hc
  have m0:=hc 0 _ rfl
  have m1:=hc 1 _ rfl
  have m2:=hc 2 _ rfl
  have m3:=hc 3 _ rfl
  have m4:=hc 4 _ rfl
  have m5:=hc 5 _ rfl
  have m6:=hc 6 _ rfl
  have m7:=hc 7 _ rfl
  have m8:=hc 8 _ rfl
  have m9:=hc 9 _ rfl
  have m10:=hc 10 _ rfl
  have HV5:Hid (w5.heap[gV]?=some (.cells #[F.pv e.1,.slice (some ⟨gM,0,none⟩) src.parts.length src.parts.length] 205 (0,0))):=(hg5.block gV (Array.getElem?_eq_some_iff.1 H1.out.vis).1 (fun x=>qai H1.out.vis H1.out.sv.nums (Option.some.inj x))).trans H1.out.vis
  have HM5:Hid (w5.heap[gM]?=some (.cells (qea (List.replicate src.parts.length 0)).toArray 3 (0,0))):=(hg5.block gM (Array.getElem?_eq_some_iff.1 H1.out.mks).1 (fun x=>qai H1.out.mks H1.out.sv.nums (Option.some.inj x))).trans H1.out.mks
  clear hc hne hm5 hg5
  have H5:=(show Hid _ from h5.1)
  have HC5:=(show Hid _ from h5.2)
  clear h5
  go_wp2_with fail
  go_region
  go_wp2_with fail
  clear b3 b4 m0 m1 m2 m3 m4 m5 m6 m7 m8 m9 m10 hrun
  have b4:∀ o,(w5.alloc o).cell? ⟨F.g,4,none⟩=some (.slice av s.vis.length cv):=fun o=>((H5.out.se.alloc o).cell 4 _ rfl).trans (by rw[hvv]; rfl)
  have b5:w5.cell? ⟨F.g,4,none⟩=some (.slice av s.vis.length cv):=(H5.out.se.cell 4 _ rfl).trans (by rw[hvv]; rfl)
  have v0:w5.cell? ⟨gV,0,none⟩=some (F.pv e.1):=qaa HV5.out 0 _ rfl
  have v1:w5.cell? ⟨gV,1,none⟩=some (.slice (some ⟨gM,0,none⟩) src.parts.length src.parts.length):=qaa HV5.out 1 _ rfl
  have v2:∀ o,(w5.alloc o).cell? ⟨gV,0,none⟩=some (F.pv e.1):=fun o=>qaa ((heap_alloc_old w5 o (Array.getElem?_eq_some_iff.1 HV5.out).1).trans HV5.out) 0 _ rfl
  have v3:∀ o,(w5.alloc o).cell? ⟨gV,1,none⟩=some (.slice (some ⟨gM,0,none⟩) src.parts.length src.parts.length):=fun o=>qaa ((heap_alloc_old w5 o (Array.getElem?_eq_some_iff.1 HV5.out).1).trans HV5.out) 1 _ rfl
  have HNews:Hid (qhj F e.1 gM src.parts.length=[.slice ao src.parts.length cap,.slice (some ⟨gM,0,none⟩) src.parts.length src.parts.length]):=by show _=_; unfold qhj; rw[HPV.out]
  rw[hvv]at H5 HRow
  go_cut [] (fun wx=>∃ v',Hid (SvAt wx B F S v' (M++[gM]) (Pl.begun S s e)∧Cuv B F w5 wx∧wx.heap[gV]?=w5.heap[gV]?))
  case first=>
   go_region_law (refine qbl rfl (.tmp 42) (.tmp 44) 75 rfl B 205 i0 (.agg #[.slice none 0 0,.slice none 0 0]) 2 48 Tryz.underlying75 hi0 hz0 hz1 hz2 quq (by decide) (.slice av s.vis.length cv) s.vis.length _ (by simp[Act.eval]) (World.ownsRow.alloc H5.out.row _) ⟨_,0,none⟩ 1 1 [.slice ao src.parts.length cap,.slice (some ⟨gM,0,none⟩) src.parts.length src.parts.length] (by simp[Act.eval]) rfl (qgd _ _ _) (by simp[Value.oneCell']) (by unfold maxLen; omega) (by omega) (by simp; omega) ?_; intro v' w6 hown hgr hloc; obtain⟨g',cap',rfl,_,_⟩:=qao hown (by omega); obtain⟨q4,r4⟩:=SvAt.ahead H5.out ((Below.refl _ _).alloc (Nat.le_refl _) _).drew hgr)
   all_goals
    go_wp2_with fail
    go_meet
    case rel=>
     rw[← HNews.out]at hown
     have hvis:=SvAt.visit H5.out ((Below.refl _ _).alloc (Nat.le_refl _) _).drew HM5.out (Nat.le_trans hB H1.out.old.2) HNE.out hown hgr
     have hVk:gV<w5.heap.size:=(Array.getElem?_eq_some_iff.1 HV5.out).1
     have e9:Pl.begun S s e={ s with nums:=Pl.qbg s.nums e s.vis.length,vis:=s.vis++[(e.1,List.replicate src.parts.length 0)] }:=by
      unfold Pl.begun
      rw[show Pl.qaj S e.1=src.parts by unfold Pl.qaj; rw[HSrc.out]]
     refine⟨.slice (some ⟨g',0,none⟩) (s.vis.length+1) cap',?_,hvis.2,?_⟩
     ·rw[e9]
      exact hvis.1
     ·refine(Below.heap_setCell _ _ _ _ (qaf HV5.out H5.out.se.blk qdi)).trans ((hgr.block gV (by simp; omega) (fun q=>?_)).trans (heap_alloc_old w5 _ hVk))
      have:=HRow.out gV q.symm
      have:=H1.out.old.1
      omega
  case rest=>
   obtain⟨v',H9⟩:=hcut
   have v4:=H9.out.2.2.trans HV5.out
   have v0:=qaa v4 0 _ rfl
   have v1:=qaa v4 1 _ rfl
   clear v4
   go_wp2_with fail
   go_quiet (fail)
   go_wp2_with fail
   go_ret2
   refine⟨gM,v',by rw[HPV.out]; rfl,H9.out.1.below (qa3 (Below.refl _ _) _),?_,H1.out.old.2⟩
   exact((Cuv.of_below H1.out.below hB).trans ((Cuv.of_below (Below.refl _ _).drew (Nat.le_trans hB H1.out.below.size)).trans HC5.out)).trans (H9.out.2.1.trans (Cuv.of_below (qa3 (Below.refl _ _) _) (Nat.le_trans hB5 H9.out.2.1.below.size)))
end Go.Proofs.YtfkhljmiehdgmaaGreatDoor
namespace Go.Proofs.YtfkhljmiehdgmaaGreatDoor
open Go.RowKit
def qew (b:Pl.Sx×Nat):List Value:=[.int .u8 (b.1.st.mode:Int),bs b.1.st.name,bs b.1.st.elem,.int .i64 b.1.st.kind,.int .i64 (b.1.st.read:Int),.bool b.1.ma.ref,.bool b.1.st.esc,.int .i64 b.1.ma.hex,.int .i64 b.1.ma.pct,.int .i64 b.1.ma.far,.int .i64 (b.2:Nat)]
def qfo (L:List (Pl.Sx×Nat)):List Value:=L.flatMap qew
theorem qoh (L:List (Pl.Sx×Nat)):(qfo L).length=L.length*11:=by
 induction L with
 | nil=>rfl
 | cons p L ih=>show (qfo L).length+11=_; rw[ih,List.length_cons]; omega
theorem qlr (L:List (Pl.Sx×Nat)) (b:Pl.Sx×Nat):qfo (L++[b])=qfo L++qew b:=by simp[qfo]
theorem qp5:∀(L:List (Pl.Sx×Nat)) (k:Nat) (b:Pl.Sx×Nat),L[k]?=some b→∀(j:Nat) (v:Value),(qew b)[j]?=some v→(qfo L)[k*11+j]?=some v
 | [],k,p,e=>by simp at e
 | q::L,0,p,e=>by
   simp only[List.getElem?_cons_zero,Option.some.injEq]at e
   subst e
   intro j v hv
   show (qew q++qfo L)[0*11+j]?=some v
   rw[Nat.zero_mul,Nat.zero_add,List.getElem?_append_left (List.getElem?_eq_some_iff.1 hv).1]
   exact hv
 | q::L,k+1,p,e=>by
   intro j v hv
   have:=qp5 L k p (by simpa using e) j v hv
   show (qew q++qfo L)[(k+1)*11+j]?=some v
   rw[List.getElem?_append_right (by simp[qew]; omega)]
   have e:(k+1)*11+j - (qew q).length=k*11+j:=by simp[qew]; omega
   rw[e]
   exact this
theorem qot:(234:TypeId)≠178:=by decide
theorem qqg:(234:TypeId)≠162:=by decide
structure Thi (w wr:World) (B:Nat) (F:Fix) (S:List Pl.Src) (vv:Value) (M:List Nat) (s:Pl.Sr) (E:Nat) (e:Pl.En) (v g len:Nat) (G:Nat) (x:Pl.Sx) (vb:Value) (L:List (Pl.Sx×Nat)):Prop where
 sv:SvAt wr B F S vv M s
 ent:wr.heap[E]?=some (.cells (qak e) 180 (0,0))
 now:StIn wr G x
 mks:M[v]?=some g
 vis:∃ u,s.vis[v]?=some u∧u.2.length=len
 row:wr.ownsRow w.heap.size 234 11 vb L.length (qfo L)
 old:w.heap.size≤G∧B≤w.heap.size
 cuv:Cuv B F w wr
 tabs:TabB B wr
section
variable {w wr w':World} {B:Nat} {F:Fix} {S:List Pl.Src} {vv vv':Value} {M M':List Nat} {s s':Pl.Sr} {E:Nat} {e:Pl.En} {v g len G:Nat} {x:Pl.Sx} {vb:Value} {L:List (Pl.Sx×Nat)}
theorem Thi.below (h:Thi w wr B F S vv M s E e v g len G x vb L) (hb:Below wr.heap.size wr w'):Thi w w' B F S vv M s E e v g len G x vb L:=
 have hB:B≤wr.heap.size:=Nat.le_trans h.old.2 h.cuv.below.size
 ⟨h.sv.below hb,(hb.block _ (Array.getElem?_eq_some_iff.1 h.ent).1).trans h.ent,h.now.below hb,h.mks,h.vis,qah h.row fun k hk=>hb.block k (h.row.lt k hk).2,h.old,h.cuv.trans (Cuv.of_below hb hB),h.tabs.kept (hb.mono hB)⟩
theorem Thi.alloc (h:Thi w wr B F S vv M s E e v g len G x vb L) (o:Obj):Thi w (wr.alloc o) B F S vv M s E e v g len G x vb L:=h.below ((Below.refl _ _).alloc (Nat.le_refl _) o)
theorem Thi.drew (h:Thi w wr B F S vv M s E e v g len G x vb L):Thi w wr.drew B F S vv M s E e v g len G x vb L:=h.below (Below.refl _ _).drew
theorem Thi.drewN (h:Thi w wr B F S vv M s E e v g len G x vb L) (n:Nat):Thi w (wr.drewN n) B F S vv M s E e v g len G x vb L:=h.below (qa3 (Below.refl _ _) n)
theorem Thi.turn (h:Thi w wr B F S vv M s E e v g len G x vb L) {ext:List Nat} (hs:SvAt w' B F S vv' (M++ext) s') (hc:Cuv B F wr w') (hg:Pl.Gv s s'):Thi w w' B F S vv' (M++ext) s' E e v g len G x vb L:=by
 have k1:=hc.keep G _ _ _ h.now (qaf h.now h.sv.se.blk qb0) (by decide) (by decide)
 have k3:=hc.keep E _ _ _ h.ent (qaf h.ent h.sv.se.blk qb1) (by decide) (by decide)
 refine⟨hs,k3.trans h.ent,k1.trans h.now,?_,?_,qah h.row fun k hk=>?_,h.old,h.cuv.trans hc,h.tabs.kept hc.below⟩
 ·rw[List.getElem?_append_left (List.getElem?_eq_some_iff.1 h.mks).1]; exact h.mks
 ·obtain⟨u,h1,h2⟩:=h.vis
  obtain⟨u',e1,_,e3⟩:=hg.vis v u h1
  exact⟨u',e1,e3.trans h2⟩
 ·obtain⟨cur,hcc⟩:=qae h.row k hk
  exact hc.keep k _ _ _ hcc (qaf hcc h.sv.se.blk qot) (by decide) (by decide)
theorem Thi.set (h:Thi w wr B F S vv M s E e v g len G x vb L) (y:Pl.Sx):Thi w (qcn wr G (.int .u8 (y.st.mode:Int)) (.string ⟨y.st.name.toArray⟩) (.string ⟨y.st.elem.toArray⟩) (.int .i64 y.st.kind) (.int .i64 (y.st.read:Int)) (.bool y.ma.ref) (.bool y.st.esc) (.int .i64 y.ma.hex) (.int .i64 y.ma.pct) (.int .i64 y.ma.far)) B F S vv M s E e v g len G y vb L:=by
 have hfar:=fun k (hk:k≠G)=>qf9 (w:=wr) hk (.int .u8 (y.st.mode:Int)) (.string ⟨y.st.name.toArray⟩) (.string ⟨y.st.elem.toArray⟩) (.int .i64 y.st.kind) (.int .i64 (y.st.read:Int)) (.bool y.ma.ref) (.bool y.st.esc) (.int .i64 y.ma.hex) (.int .i64 y.ma.pct) (.int .i64 y.ma.far)
 have hbel:Below G wr (qcn wr G (.int .u8 (y.st.mode:Int)) (.string ⟨y.st.name.toArray⟩) (.string ⟨y.st.elem.toArray⟩) (.int .i64 y.st.kind) (.int .i64 (y.st.read:Int)) (.bool y.ma.ref) (.bool y.st.esc) (.int .i64 y.ma.hex) (.int .i64 y.ma.pct) (.int .i64 y.ma.far)):=qaw (Below.refl _ _) (Nat.le_refl _) _ _ _ _ _ _ _ _ _ _
 have hs:=h.now.set y
 generalize qcn wr G _ _ _ _ _ _ _ _ _ _=w' at hfar hbel hs ⊢
 have hB:=hbel.mono (Nat.le_trans h.old.2 h.old.1)
 refine⟨h.sv.far h.now hfar,(hfar _ (qaf h.ent h.now qgz)).trans h.ent,hs,h.mks,h.vis,qah h.row fun k hk=>hfar k ?_,h.old,⟨h.cuv.below.trans hB,fun k cs t fz hk h1 h2 h3=>(hfar k (fun e=>?_)).trans (h.cuv.keep k cs t fz hk h1 h2 h3)⟩,h.tabs.kept hB⟩
 ·obtain⟨cur,hcc⟩:=qae h.row k hk
  exact qaf hcc h.now qqg
 ·have:=(Array.getElem?_eq_some_iff.1 hk).1
  have:=h.old.1
  omega
theorem Thi.mark (h:Thi w wr B F S vv M s E e v g len G x vb L) (a:Nat) (m:Int):Thi w (wr.setCell ⟨g,a,none⟩ (.int .i64 m)) B F S vv M (s.mark v a m) E e v g len G x vb L:=by
 obtain⟨h1,h2⟩:=h.sv.mark h.mks a m
 have:=h.turn (ext:=[]) (by rw[List.append_nil]; exact h1) h2 (Pl.Gv.mark s v a m)
 rwa [List.append_nil]at this
theorem Thi.cell (h:Thi w wr B F S vv M s E e v g len G x vb L) (a:Nat) (ha:a<len):(∃ z,wr.cell? ⟨g,a,none⟩=some (.int .i64 z))∧wr.frozen? ⟨g,a,none⟩=false:=by
 obtain⟨u,h1,h2⟩:=h.vis
 obtain⟨hb,_⟩:=h.sv.marks v g u h.mks h1
 refine⟨⟨u.2[a]'(by omega),?_⟩,by simp[World.frozen?,hb]⟩
 refine qaa hb a _ ?_
 simp[qea]
theorem Thi.push (h:Thi w wr B F S vv M s E e v g len G x vb L) {w0:World} {vb':Value} (b:Pl.Sx×Nat) (hb0:Below wr.heap.size wr w0) (hown:w'.ownsRow w.heap.size 234 11 vb' (L.length+1) (qfo L++qew b)) (hgr:w0.grownBy w' vb.ownBlock):Thi w w' B F S vv M s E e v g len G x vb' (L++[b]):=by
 have h0:=h.below hb0
 have hkc:∀(k:Nat) (cs:Array Value) (t:TypeId) (fz:Nat×Nat),w0.heap[k]?=some (.cells cs t fz)→t≠234→w'.heap[k]?=w0.heap[k]?:=fun k cs t fz hk ht=>hgr.block k (Array.getElem?_eq_some_iff.1 hk).1 (fun e=>by
  obtain⟨cur,hcc⟩:=qae h0.row k e.symm
  exact qaf hk hcc ht rfl)
 have hkm:∀ b Lm,qep w0 b Lm→w'.heap[b]?=w0.heap[b]?:=fun b Lm hm=>hgr.block b hm.lt (fun e=>by
  obtain⟨cur,hcc⟩:=qae h0.row b e.symm
  exact qai hcc hm rfl)
 have hblt:∀ k,vb.ownBlock=some k→w.heap.size≤k:=fun k hk=>(h0.row.lt k hk).1
 obtain⟨cs',fz',hcs⟩:=h0.sv.se.src.blk
 have hse:SeAt w' B F S vv s:=by
  refine⟨(hkc _ _ _ _ h0.sv.se.blk (by decide)).trans h0.sv.se.blk,h0.sv.se.src.kept (hkc _ _ _ _ hcs (by decide)) (fun i s' q hs hv=>?_),h0.sv.se.places.heap (hkm _ _ h0.sv.se.places),h0.sv.se.ends.heap (hkm _ _ h0.sv.se.ends),h0.sv.se.le,h0.sv.se.apart⟩
  obtain⟨cur,hc'⟩:=qae (h0.sv.se.src.row i s' hs) q hv
  exact hkc _ _ _ _ hc' (by decide)
 have hsv:SvAt w' B F S vv M s:=by
  refine⟨hse,h0.sv.nums.heap (hkm _ _ h0.sv.nums),qah h0.sv.row fun k hk=>?_,h0.sv.len,fun i g v hi hv=>?_,h0.sv.one,h0.sv.apart⟩
  ·obtain⟨cur,hc'⟩:=qae h0.sv.row k hk
   exact hkc _ _ _ _ hc' (by decide)
  ·obtain⟨q1,q2⟩:=h0.sv.marks i g v hi hv
   exact⟨(hkc _ _ _ _ q1 (by decide)).trans q1,q2⟩
 have hbel:Below w.heap.size w0 w':=⟨hgr.os,hgr.tape,hgr.output,hgr.size,fun k hk=>hgr.block k (by have:=h0.cuv.below.size; omega) (fun e=>by have:=hblt k e.symm; omega)⟩
 refine⟨hsv,(hkc _ _ _ _ h0.ent (by decide)).trans h0.ent,(hkc _ _ _ _ h0.now (by decide)).trans h0.now,h0.mks,h0.vis,?_,h0.old,⟨h0.cuv.below.trans (hbel.mono h0.old.2),fun k cs t fz hk h1 h2 h3=>?_⟩,h0.tabs.kept (hbel.mono h0.old.2)⟩
 ·rw[List.length_append,qlr]; exact hown
 ·have hlt:=(Array.getElem?_eq_some_iff.1 hk).1
  exact(hgr.block k (by have:=h0.cuv.below.size; omega) (fun e=>by have:=hblt k e.symm; omega)).trans (h0.cuv.keep k cs t fz hk h1 h2 h3)
end
end Go.Proofs.YtfkhljmiehdgmaaGreatDoor
namespace Go.Proofs.YtfkhljmiehdgmaaGreatDoor
open Go.RowKit Go.Maps
theorem q45 {x:Pl.Sx} (h:Pl.SxFit x):∃ l,keyOf Tryz.prog 162 (qad x)=some l:=by
 obtain⟨h1,h2,h3,h4,h5,h6,h7⟩:=qz6 h.ok
 have hf:=h.far
 obtain⟨d,hs⟩:∃ d,Tryz.prog.types.size+1=d+3:=⟨Tryz.prog.types.size - 2,by
  have:4≤Tryz.prog.types.size:=by decide +kernel
  omega⟩
 obtain⟨l,hl⟩:=q0c d x.st.mode ⟨x.st.name.toArray⟩ ⟨x.st.elem.toArray⟩ x.st.kind x.st.read x.ma.ref x.st.esc x.ma.hex x.ma.pct x.ma.far h1 (by simp[ByteArray.size]; unfold maxLen; omega) (by simp[ByteArray.size]; unfold maxLen; omega) h4 h5 h6 h7 (WalkArith.wf_i64 (by omega))
 have hk:Tryz.prog.keyType 162=true:=by kernel_rfl
 have hfm:(qad x).formed Tryz.prog 162=true:=by
  unfold qad Value.formed
  simp[Tryz.underlying162,qj0,qab]
 unfold keyOf
 simp only[Tryz.underlying162]
 rw[hk,hfm,hs]
 unfold qad qab bs
 simp[Value.cells,hl]
theorem qz7 {x y:Pl.Sx} (h:qad x=qad y):x=y:=by
 have:=@qio (0,x) (0,y) (by
  unfold qad at h
  injection h with h
  unfold qfh
  simp only[h])
 injection this
theorem qwv (w:World) {x y:Pl.Sx} (hx:Pl.SxFit x) (hy:Pl.SxFit y):(Op.equal 162 (qad x) (qad y)).run Tryz.prog w=.ok (decide (x=y)) w:=by
 obtain⟨lx,h1⟩:=q45 hx
 obtain⟨ly,h2⟩:=q45 hy
 obtain⟨r,hr,hiff⟩:=run_equal_deep w (m:=4) (by decide) (by kernel_rfl) (by kernel_rfl) h1 h2
 rw[hr]
 have:r=decide (x=y):=by
  rw[Bool.eq_iff_iff,hiff,decide_eq_true_iff]
  constructor
  ·intro e
   exact qz7 (keyOf_inj_deep (m:=4) (k:=162) (by kernel_rfl) (by kernel_rfl) h1 (by rw[h2,e]))
  ·rintro rfl
   rw[h1]at h2
   exact Option.some.inj h2
 rw[this]
theorem qpb (w:World) (x y:Pl.Sx) (o1 o2:Operand):(eqGuard .neq 162 o1 o2 (qad x) (qad y)).run Tryz.prog w=.ok () w:=by
 unfold eqGuard qad
 simp[run_program]
theorem q44 (w:World) {x y:Pl.Sx} (hx:Pl.SxFit x) (hy:Pl.SxFit y):(binOp .neq 162 (qad x) (qad y)).run Tryz.prog w=.ok (.bool (!decide (x=y))) w:=by
 have h:=qwv w hx hy
 unfold binOp qad
 unfold qad at h
 simp[h]
theorem qpc (w:World) {x y:Pl.Sx} (hx:Pl.SxFit x) (hy:Pl.SxFit y):(Op.equalIn 10000 162 (qad x) (qad y)).run Tryz.prog w=.ok (decide (x=y)) w:=by
 have h:=qwv w hx hy
 unfold qad at h ⊢
 simpa [Op.equal,Op.maxDepth] using h
section
variable {w wr w':World} {B:Nat} {F:Fix} {S:List Pl.Src} {vv vv':Value} {M M':List Nat} {s s':Pl.Sr} {E:Nat} {e:Pl.En} {v g len G:Nat} {x:Pl.Sx} {L:List (Pl.Sx×Nat)} {b:Pl.Sx×Nat} {av:Option Addr} {cv:Nat}
theorem quc (L:List (Pl.Sx×Nat)) (b:Pl.Sx×Nat):(qfo (L++[b])).take (L.length*11)=qfo L:=by
 rw[qlr,← qoh,List.take_left]
theorem Thi.pop (h:Thi w wr B F S vv M s E e v g len G x (.slice av (L++[b]).length cv) (L++[b])):Thi w wr B F S vv M s E e v g len G x (.slice av L.length cv) L:=by
 have hl:(L++[b]).length=L.length+1:=by simp
 have hr:=h.row
 obtain⟨gb,cb,hg,_⟩:=qao hr (by omega)
 injection hg with hg1 hg2 hg3
 subst hg1
 refine⟨h.sv,h.ent,h.now,h.mks,h.vis,?_,h.old,h.cuv,h.tabs⟩
 have:=qll hr L.length (by omega)
 rwa [quc]at this
theorem Thi.last (h:Thi w wr B F S vv M s E e v g len G x (.slice av (L++[b]).length cv) (L++[b])):∃ gb,av=some ⟨gb,0,none⟩∧(L.length+1≤cv∧cv≤maxLen)∧∀ j v,(qew b)[j]?=some v→wr.cell? ⟨gb,L.length*11+j,none⟩=some v:=by
 have hl:(L++[b]).length=L.length+1:=by simp
 have hr:=h.row
 have hcv:L.length+1≤cv∧cv≤maxLen:=by
  rcases hr.2 with ⟨h1,h2⟩ | ⟨g,cap,cur,hv,_,_,h3,h4,_⟩
  ·omega
  ·injection hv with hv1 hv2 hv3
   subst hv3
   omega
 obtain⟨gb,cb,hg,_⟩:=qao hr (by omega)
 injection hg with hg1 hg2 hg3
 subst hg1
 refine⟨gb,rfl,hcv,fun j v hv=>?_⟩
 have hc:=qp5 (L++[b]) L.length b (by simp) j v hv
 exact(h.row.cellAt (L.length*11+j) (by have q:=(List.getElem?_eq_some_iff.1 hc).1; rw[qoh]at q; exact q)).trans hc
end
end Go.Proofs.YtfkhljmiehdgmaaGreatDoor
