/-
  Steps of the proof (texts laid together, blanks left out): PgWF, PgWG.
-/
import Derived.Test.YtfkhljmiehdgmaaGreatDoorTaAV
import Derived.Test.YtfkhljmiehdgmaaGreatDoorTaBH
namespace Go.Proofs.YtfkhljmiehdgmaaGreatDoor
open Go.RowKit
set_option maxRecDepth 100000 in
set_option maxHeartbeats 3200000 in
theorem qyy (s:Pl.St) (k:Pl.Mk) (b:UInt8) (w:World) (ht:PTabs w) (hx:-1000≤k.hex∧k.hex≤1000) (hy:-1000≤k.pct∧k.pct≤1000) (he:s.esc=false) (hm:s.mode=3) (h9:s.name.length=9) :
  Calls Tryz.prog 96 #[qad ⟨s,k⟩,.int .u8 3,.int .u8 b.toNat] w fun e w'=>e=.returned (qad (Pl.Sx.led ⟨s,k⟩ 3 b))∧Below w.heap.size w w':=by
 have HV:Hid (Pl.Sx.led ⟨s,k⟩ 3 b=⟨⟨3,Pl.qdg s.name b,s.elem,s.kind,s.read,false⟩,Pl.qam s.kind s.mode k b⟩):=by
  show Pl.Sx.mk _ _=_
  have h1:s.led 3 b=⟨3,Pl.qdg s.name b,s.elem,s.kind,s.read,s.esc⟩:=by unfold Pl.St.led; rw[if_pos hm.symm]; rfl
  have h2:Pl.qcq s k 3 b=Pl.qam s.kind s.mode k b:=by unfold Pl.qcq; rw[if_pos ⟨hm.symm,by omega⟩]
  show Pl.Sx.mk (s.led 3 b) (Pl.qcq s k 3 b)=_
  rw[h1,h2,he]
 rw[HV.out]
 have hS:=fun w=>qey ⟨s,k⟩ b w hx hy
 have HM:=fun t t' cs hc=>Mid.start ⟨s,k⟩ ht cs t t' hc
 generalize Pl.qam s.kind s.mode k b=K at hS ⊢
 unfold qd4 qcw at hS
 unfold qad at hS ⊢
 unfold qab bs at hS HM ⊢
 simp only at hS HM ⊢
 rw[he,hm]at hS HM ⊢
 have HS:=(show Hid _ from hS)
 have HMM:=(show Hid _ from HM)
 clear hS HV HM ht hx hy
 go_enter Tryz.func96,Tryz.ntmps96
 go_wp2_with fail
 refine(HS.out _).mono ?_
 rintro e w1 ⟨rfl,hb1⟩
 have mid:=(HMM.out _ _ _ rfl).kept hb1
 clear hb1 HS HMM
 have q0:=mid.at'.mode
 have q1:=mid.at'.name
 have q2:=mid.at'.elem
 have q3:=mid.at'.kind
 have q4:=mid.at'.read
 have q5:=mid.at'.ref
 have q6:=mid.at'.esc
 have q7:=mid.at'.hex
 have q8:=mid.at'.pct
 have q9:=mid.at'.far
 have f0:=mid.slot.thaw 0
 have f1:=mid.slot.thaw 1
 have f2:=mid.slot.thaw 2
 have f3:=mid.slot.thaw 3
 have f4:=mid.slot.thaw 4
 have f5:=mid.slot.thaw 5
 have f6:=mid.slot.thaw 6
 have f7:=mid.slot.thaw 7
 have f8:=mid.slot.thaw 8
 have f9:=mid.slot.thaw 9
 go_wp2_with fail
 clear q0 q1 q2 q3 q4 q5 q6 q7 q8 q9 f0 f1 f2 f3 f4 f5 f6 f7 f8 f9
 have mid2:=(((((mid.setRef K.ref).setEsc false).setHex K.hex).setPct K.pct).setFar K.far).setMode 3 3 rfl
 clear mid
 generalize (World.setCell _ _ _)=w2 at mid2 ⊢
 have mid:=mid2
 clear mid2
 have q0:=mid.at'.mode
 have q1:=mid.at'.name
 have q2:=mid.at'.elem
 have q3:=mid.at'.kind
 have q4:=mid.at'.read
 have q5:=mid.at'.ref
 have q6:=mid.at'.esc
 have q7:=mid.at'.hex
 have q8:=mid.at'.pct
 have q9:=mid.at'.far
 have f0:=mid.slot.thaw 0
 have f1:=mid.slot.thaw 1
 have f2:=mid.slot.thaw 2
 have f3:=mid.slot.thaw 3
 have f4:=mid.slot.thaw 4
 have f5:=mid.slot.thaw 5
 have f6:=mid.slot.thaw 6
 have f7:=mid.slot.thaw 7
 have f8:=mid.slot.thaw 8
 have f9:=mid.slot.thaw 9
 refine(qnq s.name b _ h9).mono ?_
 rintro e w' ⟨rfl,rfl⟩
 obtain⟨v0,p0⟩:=mid.res.cell 0 (by omega)
 obtain⟨v1,p1⟩:=mid.res.cell 1 (by omega)
 obtain⟨v2,p2⟩:=mid.res.cell 2 (by omega)
 obtain⟨v3,p3⟩:=mid.res.cell 3 (by omega)
 obtain⟨v4,p4⟩:=mid.res.cell 4 (by omega)
 obtain⟨v5,p5⟩:=mid.res.cell 5 (by omega)
 obtain⟨v6,p6⟩:=mid.res.cell 6 (by omega)
 obtain⟨v7,p7⟩:=mid.res.cell 7 (by omega)
 obtain⟨v8,p8⟩:=mid.res.cell 8 (by omega)
 obtain⟨v9,p9⟩:=mid.res.cell 9 (by omega)
 have g0:=mid.res.thaw 0
 have g1:=mid.res.thaw 1
 have g2:=mid.res.thaw 2
 have g3:=mid.res.thaw 3
 have g4:=mid.res.thaw 4
 have g5:=mid.res.thaw 5
 have g6:=mid.res.thaw 6
 have g7:=mid.res.thaw 7
 have g8:=mid.res.thaw 8
 have g9:=mid.res.thaw 9
 go_wp2_with fail
 have mid:=(mid.setName (Pl.qdg s.name b))
 refine qap Tryz.results96 (w.heap.size+1) _ Tryz.underlying162 rfl (by kernel_rfl) rfl mid.res rfl _ _ _ _ _ _ _ _ _ _ ?_
 exact⟨rfl,qaw mid.below (by simp) _ _ _ _ _ _ _ _ _ _⟩
set_option maxRecDepth 100000 in
set_option maxHeartbeats 3200000 in
theorem qyx (s:Pl.St) (k:Pl.Mk) (b:UInt8) (w:World) (ht:PTabs w) (hx:-1000≤k.hex∧k.hex≤1000) (hy:-1000≤k.pct∧k.pct≤1000) (he:s.esc=false) (hm:s.mode=3) (hn:s.name.length≤9) (h9:¬ s.name.length=9) :
  Calls Tryz.prog 96 #[qad ⟨s,k⟩,.int .u8 3,.int .u8 b.toNat] w fun e w'=>e=.returned (qad (Pl.Sx.led ⟨s,k⟩ 3 b))∧Below w.heap.size w w':=by
 have HV:Hid (Pl.Sx.led ⟨s,k⟩ 3 b=⟨⟨3,Pl.qdg s.name b,s.elem,s.kind,s.read,false⟩,Pl.qam s.kind s.mode k b⟩):=by
  show Pl.Sx.mk _ _=_
  have h1:s.led 3 b=⟨3,Pl.qdg s.name b,s.elem,s.kind,s.read,s.esc⟩:=by unfold Pl.St.led; rw[if_pos hm.symm]; rfl
  have h2:Pl.qcq s k 3 b=Pl.qam s.kind s.mode k b:=by unfold Pl.qcq; rw[if_pos ⟨hm.symm,by omega⟩]
  show Pl.Sx.mk (s.led 3 b) (Pl.qcq s k 3 b)=_
  rw[h1,h2,he]
 rw[HV.out]
 have hS:=fun w=>qey ⟨s,k⟩ b w hx hy
 have HM:=fun t t' cs hc=>Mid.start ⟨s,k⟩ ht cs t t' hc
 generalize Pl.qam s.kind s.mode k b=K at hS ⊢
 unfold qd4 qcw at hS
 unfold qad at hS ⊢
 unfold qab bs at hS HM ⊢
 simp only at hS HM ⊢
 rw[he,hm]at hS HM ⊢
 have HS:=(show Hid _ from hS)
 have HMM:=(show Hid _ from HM)
 clear hS HV HM ht hx hy
 go_enter Tryz.func96,Tryz.ntmps96
 go_wp2_with fail
 refine(HS.out _).mono ?_
 rintro e w1 ⟨rfl,hb1⟩
 have mid:=(HMM.out _ _ _ rfl).kept hb1
 clear hb1 HS HMM
 have q0:=mid.at'.mode
 have q1:=mid.at'.name
 have q2:=mid.at'.elem
 have q3:=mid.at'.kind
 have q4:=mid.at'.read
 have q5:=mid.at'.ref
 have q6:=mid.at'.esc
 have q7:=mid.at'.hex
 have q8:=mid.at'.pct
 have q9:=mid.at'.far
 have f0:=mid.slot.thaw 0
 have f1:=mid.slot.thaw 1
 have f2:=mid.slot.thaw 2
 have f3:=mid.slot.thaw 3
 have f4:=mid.slot.thaw 4
 have f5:=mid.slot.thaw 5
 have f6:=mid.slot.thaw 6
 have f7:=mid.slot.thaw 7
 have f8:=mid.slot.thaw 8
 have f9:=mid.slot.thaw 9
 go_wp2_with fail
 clear q0 q1 q2 q3 q4 q5 q6 q7 q8 q9 f0 f1 f2 f3 f4 f5 f6 f7 f8 f9
 have mid2:=(((((mid.setRef K.ref).setEsc false).setHex K.hex).setPct K.pct).setFar K.far).setMode 3 3 rfl
 clear mid
 generalize (World.setCell _ _ _)=w2 at mid2 ⊢
 have mid:=mid2
 clear mid2
 have q0:=mid.at'.mode
 have q1:=mid.at'.name
 have q2:=mid.at'.elem
 have q3:=mid.at'.kind
 have q4:=mid.at'.read
 have q5:=mid.at'.ref
 have q6:=mid.at'.esc
 have q7:=mid.at'.hex
 have q8:=mid.at'.pct
 have q9:=mid.at'.far
 have f0:=mid.slot.thaw 0
 have f1:=mid.slot.thaw 1
 have f2:=mid.slot.thaw 2
 have f3:=mid.slot.thaw 3
 have f4:=mid.slot.thaw 4
 have f5:=mid.slot.thaw 5
 have f6:=mid.slot.thaw 6
 have f7:=mid.slot.thaw 7
 have f8:=mid.slot.thaw 8
 have f9:=mid.slot.thaw 9
 refine(qhw s.name b _ hn h9).mono ?_
 rintro e w' ⟨rfl,rfl⟩
 clear q0 q1 q2 q3 q4 q5 q6 q7 q8 q9 f0 f1 f2 f3 f4 f5 f6 f7 f8 f9
 have mid2:=mid.alloc (.cells #[.int .u8 (Pl.small b).toNat] 5)
 clear mid
 generalize (w2.alloc (.cells #[.int .u8 (Pl.small b).toNat] 5))=w3 at mid2 ⊢
 have mid:=mid2
 clear mid2
 have q0:=mid.at'.mode
 have q1:=mid.at'.name
 have q2:=mid.at'.elem
 have q3:=mid.at'.kind
 have q4:=mid.at'.read
 have q5:=mid.at'.ref
 have q6:=mid.at'.esc
 have q7:=mid.at'.hex
 have q8:=mid.at'.pct
 have q9:=mid.at'.far
 have f0:=mid.slot.thaw 0
 have f1:=mid.slot.thaw 1
 have f2:=mid.slot.thaw 2
 have f3:=mid.slot.thaw 3
 have f4:=mid.slot.thaw 4
 have f5:=mid.slot.thaw 5
 have f6:=mid.slot.thaw 6
 have f7:=mid.slot.thaw 7
 have f8:=mid.slot.thaw 8
 have f9:=mid.slot.thaw 9
 obtain⟨v0,p0⟩:=mid.res.cell 0 (by omega)
 obtain⟨v1,p1⟩:=mid.res.cell 1 (by omega)
 obtain⟨v2,p2⟩:=mid.res.cell 2 (by omega)
 obtain⟨v3,p3⟩:=mid.res.cell 3 (by omega)
 obtain⟨v4,p4⟩:=mid.res.cell 4 (by omega)
 obtain⟨v5,p5⟩:=mid.res.cell 5 (by omega)
 obtain⟨v6,p6⟩:=mid.res.cell 6 (by omega)
 obtain⟨v7,p7⟩:=mid.res.cell 7 (by omega)
 obtain⟨v8,p8⟩:=mid.res.cell 8 (by omega)
 obtain⟨v9,p9⟩:=mid.res.cell 9 (by omega)
 have g0:=mid.res.thaw 0
 have g1:=mid.res.thaw 1
 have g2:=mid.res.thaw 2
 have g3:=mid.res.thaw 3
 have g4:=mid.res.thaw 4
 have g5:=mid.res.thaw 5
 have g6:=mid.res.thaw 6
 have g7:=mid.res.thaw 7
 have g8:=mid.res.thaw 8
 have g9:=mid.res.thaw 9
 go_wp2_with fail
 have mid:=(mid.setName (Pl.qdg s.name b))
 refine qap Tryz.results96 (w.heap.size+1) _ Tryz.underlying162 rfl (by kernel_rfl) rfl mid.res rfl _ _ _ _ _ _ _ _ _ _ ?_
 exact⟨rfl,qaw mid.below (by simp) _ _ _ _ _ _ _ _ _ _⟩
set_option maxRecDepth 100000 in
set_option maxHeartbeats 3200000 in
theorem qyw (s:Pl.St) (k:Pl.Mk) (b:UInt8) (w:World) (ht:PTabs w) (hx:-1000≤k.hex∧k.hex≤1000) (hy:-1000≤k.pct∧k.pct≤1000) (he:s.esc=false) (hm:s.mode=5) (h9:s.name.length=9) :
  Calls Tryz.prog 96 #[qad ⟨s,k⟩,.int .u8 5,.int .u8 b.toNat] w fun e w'=>e=.returned (qad (Pl.Sx.led ⟨s,k⟩ 5 b))∧Below w.heap.size w w':=by
 have HV:Hid (Pl.Sx.led ⟨s,k⟩ 5 b=⟨⟨5,Pl.qdg s.name b,s.elem,0,s.read,false⟩,Pl.qam s.kind s.mode k b⟩):=by
  show Pl.Sx.mk _ _=_
  have h1:s.led 5 b=⟨5,Pl.qdg s.name b,s.elem,0,s.read,s.esc⟩:=by unfold Pl.St.led; rw[if_pos hm.symm]; rfl
  have h2:Pl.qcq s k 5 b=Pl.qam s.kind s.mode k b:=by unfold Pl.qcq; rw[if_pos ⟨hm.symm,by omega⟩]
  show Pl.Sx.mk (s.led 5 b) (Pl.qcq s k 5 b)=_
  rw[h1,h2,he]
 rw[HV.out]
 have hS:=fun w=>qey ⟨s,k⟩ b w hx hy
 have HM:=fun t t' cs hc=>Mid.start ⟨s,k⟩ ht cs t t' hc
 generalize Pl.qam s.kind s.mode k b=K at hS ⊢
 unfold qd4 qcw at hS
 unfold qad at hS ⊢
 unfold qab bs at hS HM ⊢
 simp only at hS HM ⊢
 rw[he,hm]at hS HM ⊢
 have HS:=(show Hid _ from hS)
 have HMM:=(show Hid _ from HM)
 clear hS HV HM ht hx hy
 go_enter Tryz.func96,Tryz.ntmps96
 go_wp2_with fail
 refine(HS.out _).mono ?_
 rintro e w1 ⟨rfl,hb1⟩
 have mid:=(HMM.out _ _ _ rfl).kept hb1
 clear hb1 HS HMM
 have q0:=mid.at'.mode
 have q1:=mid.at'.name
 have q2:=mid.at'.elem
 have q3:=mid.at'.kind
 have q4:=mid.at'.read
 have q5:=mid.at'.ref
 have q6:=mid.at'.esc
 have q7:=mid.at'.hex
 have q8:=mid.at'.pct
 have q9:=mid.at'.far
 have f0:=mid.slot.thaw 0
 have f1:=mid.slot.thaw 1
 have f2:=mid.slot.thaw 2
 have f3:=mid.slot.thaw 3
 have f4:=mid.slot.thaw 4
 have f5:=mid.slot.thaw 5
 have f6:=mid.slot.thaw 6
 have f7:=mid.slot.thaw 7
 have f8:=mid.slot.thaw 8
 have f9:=mid.slot.thaw 9
 go_wp2_with fail
 clear q0 q1 q2 q3 q4 q5 q6 q7 q8 q9 f0 f1 f2 f3 f4 f5 f6 f7 f8 f9
 have mid2:=(((((mid.setRef K.ref).setEsc false).setHex K.hex).setPct K.pct).setFar K.far).setMode 5 5 rfl
 clear mid
 generalize (World.setCell _ _ _)=w2 at mid2 ⊢
 have mid:=mid2
 clear mid2
 have q0:=mid.at'.mode
 have q1:=mid.at'.name
 have q2:=mid.at'.elem
 have q3:=mid.at'.kind
 have q4:=mid.at'.read
 have q5:=mid.at'.ref
 have q6:=mid.at'.esc
 have q7:=mid.at'.hex
 have q8:=mid.at'.pct
 have q9:=mid.at'.far
 have f0:=mid.slot.thaw 0
 have f1:=mid.slot.thaw 1
 have f2:=mid.slot.thaw 2
 have f3:=mid.slot.thaw 3
 have f4:=mid.slot.thaw 4
 have f5:=mid.slot.thaw 5
 have f6:=mid.slot.thaw 6
 have f7:=mid.slot.thaw 7
 have f8:=mid.slot.thaw 8
 have f9:=mid.slot.thaw 9
 refine(qnq s.name b _ h9).mono ?_
 rintro e w' ⟨rfl,rfl⟩
 obtain⟨v0,p0⟩:=mid.res.cell 0 (by omega)
 obtain⟨v1,p1⟩:=mid.res.cell 1 (by omega)
 obtain⟨v2,p2⟩:=mid.res.cell 2 (by omega)
 obtain⟨v3,p3⟩:=mid.res.cell 3 (by omega)
 obtain⟨v4,p4⟩:=mid.res.cell 4 (by omega)
 obtain⟨v5,p5⟩:=mid.res.cell 5 (by omega)
 obtain⟨v6,p6⟩:=mid.res.cell 6 (by omega)
 obtain⟨v7,p7⟩:=mid.res.cell 7 (by omega)
 obtain⟨v8,p8⟩:=mid.res.cell 8 (by omega)
 obtain⟨v9,p9⟩:=mid.res.cell 9 (by omega)
 have g0:=mid.res.thaw 0
 have g1:=mid.res.thaw 1
 have g2:=mid.res.thaw 2
 have g3:=mid.res.thaw 3
 have g4:=mid.res.thaw 4
 have g5:=mid.res.thaw 5
 have g6:=mid.res.thaw 6
 have g7:=mid.res.thaw 7
 have g8:=mid.res.thaw 8
 have g9:=mid.res.thaw 9
 go_wp2_with fail
 have mid:=((mid.setName (Pl.qdg s.name b)).setKind 0)
 refine qap Tryz.results96 (w.heap.size+1) _ Tryz.underlying162 rfl (by kernel_rfl) rfl mid.res rfl _ _ _ _ _ _ _ _ _ _ ?_
 exact⟨rfl,qaw mid.below (by simp) _ _ _ _ _ _ _ _ _ _⟩
set_option maxRecDepth 100000 in
set_option maxHeartbeats 3200000 in
theorem qyv (s:Pl.St) (k:Pl.Mk) (b:UInt8) (w:World) (ht:PTabs w) (hx:-1000≤k.hex∧k.hex≤1000) (hy:-1000≤k.pct∧k.pct≤1000) (he:s.esc=false) (hm:s.mode=5) (hn:s.name.length≤9) (h9:¬ s.name.length=9) :
  Calls Tryz.prog 96 #[qad ⟨s,k⟩,.int .u8 5,.int .u8 b.toNat] w fun e w'=>e=.returned (qad (Pl.Sx.led ⟨s,k⟩ 5 b))∧Below w.heap.size w w':=by
 have HV:Hid (Pl.Sx.led ⟨s,k⟩ 5 b=⟨⟨5,Pl.qdg s.name b,s.elem,0,s.read,false⟩,Pl.qam s.kind s.mode k b⟩):=by
  show Pl.Sx.mk _ _=_
  have h1:s.led 5 b=⟨5,Pl.qdg s.name b,s.elem,0,s.read,s.esc⟩:=by unfold Pl.St.led; rw[if_pos hm.symm]; rfl
  have h2:Pl.qcq s k 5 b=Pl.qam s.kind s.mode k b:=by unfold Pl.qcq; rw[if_pos ⟨hm.symm,by omega⟩]
  show Pl.Sx.mk (s.led 5 b) (Pl.qcq s k 5 b)=_
  rw[h1,h2,he]
 rw[HV.out]
 have hS:=fun w=>qey ⟨s,k⟩ b w hx hy
 have HM:=fun t t' cs hc=>Mid.start ⟨s,k⟩ ht cs t t' hc
 generalize Pl.qam s.kind s.mode k b=K at hS ⊢
 unfold qd4 qcw at hS
 unfold qad at hS ⊢
 unfold qab bs at hS HM ⊢
 simp only at hS HM ⊢
 rw[he,hm]at hS HM ⊢
 have HS:=(show Hid _ from hS)
 have HMM:=(show Hid _ from HM)
 clear hS HV HM ht hx hy
 go_enter Tryz.func96,Tryz.ntmps96
 go_wp2_with fail
 refine(HS.out _).mono ?_
 rintro e w1 ⟨rfl,hb1⟩
 have mid:=(HMM.out _ _ _ rfl).kept hb1
 clear hb1 HS HMM
 have q0:=mid.at'.mode
 have q1:=mid.at'.name
 have q2:=mid.at'.elem
 have q3:=mid.at'.kind
 have q4:=mid.at'.read
 have q5:=mid.at'.ref
 have q6:=mid.at'.esc
 have q7:=mid.at'.hex
 have q8:=mid.at'.pct
 have q9:=mid.at'.far
 have f0:=mid.slot.thaw 0
 have f1:=mid.slot.thaw 1
 have f2:=mid.slot.thaw 2
 have f3:=mid.slot.thaw 3
 have f4:=mid.slot.thaw 4
 have f5:=mid.slot.thaw 5
 have f6:=mid.slot.thaw 6
 have f7:=mid.slot.thaw 7
 have f8:=mid.slot.thaw 8
 have f9:=mid.slot.thaw 9
 go_wp2_with fail
 clear q0 q1 q2 q3 q4 q5 q6 q7 q8 q9 f0 f1 f2 f3 f4 f5 f6 f7 f8 f9
 have mid2:=(((((mid.setRef K.ref).setEsc false).setHex K.hex).setPct K.pct).setFar K.far).setMode 5 5 rfl
 clear mid
 generalize (World.setCell _ _ _)=w2 at mid2 ⊢
 have mid:=mid2
 clear mid2
 have q0:=mid.at'.mode
 have q1:=mid.at'.name
 have q2:=mid.at'.elem
 have q3:=mid.at'.kind
 have q4:=mid.at'.read
 have q5:=mid.at'.ref
 have q6:=mid.at'.esc
 have q7:=mid.at'.hex
 have q8:=mid.at'.pct
 have q9:=mid.at'.far
 have f0:=mid.slot.thaw 0
 have f1:=mid.slot.thaw 1
 have f2:=mid.slot.thaw 2
 have f3:=mid.slot.thaw 3
 have f4:=mid.slot.thaw 4
 have f5:=mid.slot.thaw 5
 have f6:=mid.slot.thaw 6
 have f7:=mid.slot.thaw 7
 have f8:=mid.slot.thaw 8
 have f9:=mid.slot.thaw 9
 refine(qhw s.name b _ hn h9).mono ?_
 rintro e w' ⟨rfl,rfl⟩
 clear q0 q1 q2 q3 q4 q5 q6 q7 q8 q9 f0 f1 f2 f3 f4 f5 f6 f7 f8 f9
 have mid2:=mid.alloc (.cells #[.int .u8 (Pl.small b).toNat] 5)
 clear mid
 generalize (w2.alloc (.cells #[.int .u8 (Pl.small b).toNat] 5))=w3 at mid2 ⊢
 have mid:=mid2
 clear mid2
 have q0:=mid.at'.mode
 have q1:=mid.at'.name
 have q2:=mid.at'.elem
 have q3:=mid.at'.kind
 have q4:=mid.at'.read
 have q5:=mid.at'.ref
 have q6:=mid.at'.esc
 have q7:=mid.at'.hex
 have q8:=mid.at'.pct
 have q9:=mid.at'.far
 have f0:=mid.slot.thaw 0
 have f1:=mid.slot.thaw 1
 have f2:=mid.slot.thaw 2
 have f3:=mid.slot.thaw 3
 have f4:=mid.slot.thaw 4
 have f5:=mid.slot.thaw 5
 have f6:=mid.slot.thaw 6
 have f7:=mid.slot.thaw 7
 have f8:=mid.slot.thaw 8
 have f9:=mid.slot.thaw 9
 obtain⟨v0,p0⟩:=mid.res.cell 0 (by omega)
 obtain⟨v1,p1⟩:=mid.res.cell 1 (by omega)
 obtain⟨v2,p2⟩:=mid.res.cell 2 (by omega)
 obtain⟨v3,p3⟩:=mid.res.cell 3 (by omega)
 obtain⟨v4,p4⟩:=mid.res.cell 4 (by omega)
 obtain⟨v5,p5⟩:=mid.res.cell 5 (by omega)
 obtain⟨v6,p6⟩:=mid.res.cell 6 (by omega)
 obtain⟨v7,p7⟩:=mid.res.cell 7 (by omega)
 obtain⟨v8,p8⟩:=mid.res.cell 8 (by omega)
 obtain⟨v9,p9⟩:=mid.res.cell 9 (by omega)
 have g0:=mid.res.thaw 0
 have g1:=mid.res.thaw 1
 have g2:=mid.res.thaw 2
 have g3:=mid.res.thaw 3
 have g4:=mid.res.thaw 4
 have g5:=mid.res.thaw 5
 have g6:=mid.res.thaw 6
 have g7:=mid.res.thaw 7
 have g8:=mid.res.thaw 8
 have g9:=mid.res.thaw 9
 go_wp2_with fail
 have mid:=((mid.setName (Pl.qdg s.name b)).setKind 0)
 refine qap Tryz.results96 (w.heap.size+1) _ Tryz.underlying162 rfl (by kernel_rfl) rfl mid.res rfl _ _ _ _ _ _ _ _ _ _ ?_
 exact⟨rfl,qaw mid.below (by simp) _ _ _ _ _ _ _ _ _ _⟩
set_option maxRecDepth 100000 in
set_option maxHeartbeats 3200000 in
theorem q1d (s:Pl.St) (k:Pl.Mk) (b:UInt8) (w:World) (ht:PTabs w) (hx:-1000≤k.hex∧k.hex≤1000) (hy:-1000≤k.pct∧k.pct≤1000) (he:s.esc=false) (hm:s.mode=4) :
  Calls Tryz.prog 96 #[qad ⟨s,k⟩,.int .u8 4,.int .u8 b.toNat] w fun e w'=>e=.returned (qad (Pl.Sx.led ⟨s,k⟩ 4 b))∧Below w.heap.size w w':=by
 have HV:Hid (Pl.Sx.led ⟨s,k⟩ 4 b=⟨⟨4,s.name,s.elem,0,s.read,false⟩,Pl.qam s.kind s.mode k b⟩):=by
  show Pl.Sx.mk _ _=_
  have h1:s.led 4 b=⟨4,s.name,s.elem,0,s.read,s.esc⟩:=by unfold Pl.St.led; rw[if_pos hm.symm]; rfl
  have h2:Pl.qcq s k 4 b=Pl.qam s.kind s.mode k b:=by unfold Pl.qcq; rw[if_pos ⟨hm.symm,by omega⟩]
  show Pl.Sx.mk (s.led 4 b) (Pl.qcq s k 4 b)=_
  rw[h1,h2,he]
 rw[HV.out]
 have hS:=fun w=>qey ⟨s,k⟩ b w hx hy
 have HM:=fun t t' cs hc=>Mid.start ⟨s,k⟩ ht cs t t' hc
 generalize Pl.qam s.kind s.mode k b=K at hS ⊢
 unfold qd4 qcw at hS
 unfold qad at hS ⊢
 unfold qab bs at hS HM ⊢
 simp only at hS HM ⊢
 rw[he,hm]at hS HM ⊢
 have HS:=(show Hid _ from hS)
 have HMM:=(show Hid _ from HM)
 clear hS HV HM ht hx hy
 go_enter Tryz.func96,Tryz.ntmps96
 go_wp2_with fail
 refine(HS.out _).mono ?_
 rintro e w1 ⟨rfl,hb1⟩
 have mid:=(HMM.out _ _ _ rfl).kept hb1
 clear hb1 HS HMM
 have q0:=mid.at'.mode
 have q1:=mid.at'.name
 have q2:=mid.at'.elem
 have q3:=mid.at'.kind
 have q4:=mid.at'.read
 have q5:=mid.at'.ref
 have q6:=mid.at'.esc
 have q7:=mid.at'.hex
 have q8:=mid.at'.pct
 have q9:=mid.at'.far
 have f0:=mid.slot.thaw 0
 have f1:=mid.slot.thaw 1
 have f2:=mid.slot.thaw 2
 have f3:=mid.slot.thaw 3
 have f4:=mid.slot.thaw 4
 have f5:=mid.slot.thaw 5
 have f6:=mid.slot.thaw 6
 have f7:=mid.slot.thaw 7
 have f8:=mid.slot.thaw 8
 have f9:=mid.slot.thaw 9
 obtain⟨v0,p0⟩:=mid.res.cell 0 (by omega)
 obtain⟨v1,p1⟩:=mid.res.cell 1 (by omega)
 obtain⟨v2,p2⟩:=mid.res.cell 2 (by omega)
 obtain⟨v3,p3⟩:=mid.res.cell 3 (by omega)
 obtain⟨v4,p4⟩:=mid.res.cell 4 (by omega)
 obtain⟨v5,p5⟩:=mid.res.cell 5 (by omega)
 obtain⟨v6,p6⟩:=mid.res.cell 6 (by omega)
 obtain⟨v7,p7⟩:=mid.res.cell 7 (by omega)
 obtain⟨v8,p8⟩:=mid.res.cell 8 (by omega)
 obtain⟨v9,p9⟩:=mid.res.cell 9 (by omega)
 have g0:=mid.res.thaw 0
 have g1:=mid.res.thaw 1
 have g2:=mid.res.thaw 2
 have g3:=mid.res.thaw 3
 have g4:=mid.res.thaw 4
 have g5:=mid.res.thaw 5
 have g6:=mid.res.thaw 6
 have g7:=mid.res.thaw 7
 have g8:=mid.res.thaw 8
 have g9:=mid.res.thaw 9
 go_wp2_with fail
 have mid:=(((((((mid.setRef K.ref).setEsc false).setHex K.hex).setPct K.pct).setFar K.far).setMode 4 4 rfl).setKind 0)
 refine qap Tryz.results96 (w.heap.size+1) _ Tryz.underlying162 rfl (by kernel_rfl) rfl mid.res rfl _ _ _ _ _ _ _ _ _ _ ?_
 exact⟨rfl,qaw mid.below (by simp) _ _ _ _ _ _ _ _ _ _⟩
set_option maxRecDepth 100000 in
set_option maxHeartbeats 3200000 in
theorem qyz (s:Pl.St) (k:Pl.Mk) (b:UInt8) (w:World) (ht:PTabs w) (hx:-1000≤k.hex∧k.hex≤1000) (hy:-1000≤k.pct∧k.pct≤1000) (he:s.esc=false) (hm:s.mode=10) :
  Calls Tryz.prog 96 #[qad ⟨s,k⟩,.int .u8 10,.int .u8 b.toNat] w fun e w'=>e=.returned (qad (Pl.Sx.led ⟨s,k⟩ 10 b))∧Below w.heap.size w w':=by
 have HV:Hid (Pl.Sx.led ⟨s,k⟩ 10 b=⟨⟨10,s.name,s.elem,0,s.read,false⟩,Pl.qam s.kind s.mode k b⟩):=by
  show Pl.Sx.mk _ _=_
  have h1:s.led 10 b=⟨10,s.name,s.elem,0,s.read,s.esc⟩:=by unfold Pl.St.led; rw[if_pos hm.symm]; rfl
  have h2:Pl.qcq s k 10 b=Pl.qam s.kind s.mode k b:=by unfold Pl.qcq; rw[if_pos ⟨hm.symm,by omega⟩]
  show Pl.Sx.mk (s.led 10 b) (Pl.qcq s k 10 b)=_
  rw[h1,h2,he]
 rw[HV.out]
 have hS:=fun w=>qey ⟨s,k⟩ b w hx hy
 have HM:=fun t t' cs hc=>Mid.start ⟨s,k⟩ ht cs t t' hc
 generalize Pl.qam s.kind s.mode k b=K at hS ⊢
 unfold qd4 qcw at hS
 unfold qad at hS ⊢
 unfold qab bs at hS HM ⊢
 simp only at hS HM ⊢
 rw[he,hm]at hS HM ⊢
 have HS:=(show Hid _ from hS)
 have HMM:=(show Hid _ from HM)
 clear hS HV HM ht hx hy
 go_enter Tryz.func96,Tryz.ntmps96
 go_wp2_with fail
 refine(HS.out _).mono ?_
 rintro e w1 ⟨rfl,hb1⟩
 have mid:=(HMM.out _ _ _ rfl).kept hb1
 clear hb1 HS HMM
 have q0:=mid.at'.mode
 have q1:=mid.at'.name
 have q2:=mid.at'.elem
 have q3:=mid.at'.kind
 have q4:=mid.at'.read
 have q5:=mid.at'.ref
 have q6:=mid.at'.esc
 have q7:=mid.at'.hex
 have q8:=mid.at'.pct
 have q9:=mid.at'.far
 have f0:=mid.slot.thaw 0
 have f1:=mid.slot.thaw 1
 have f2:=mid.slot.thaw 2
 have f3:=mid.slot.thaw 3
 have f4:=mid.slot.thaw 4
 have f5:=mid.slot.thaw 5
 have f6:=mid.slot.thaw 6
 have f7:=mid.slot.thaw 7
 have f8:=mid.slot.thaw 8
 have f9:=mid.slot.thaw 9
 obtain⟨v0,p0⟩:=mid.res.cell 0 (by omega)
 obtain⟨v1,p1⟩:=mid.res.cell 1 (by omega)
 obtain⟨v2,p2⟩:=mid.res.cell 2 (by omega)
 obtain⟨v3,p3⟩:=mid.res.cell 3 (by omega)
 obtain⟨v4,p4⟩:=mid.res.cell 4 (by omega)
 obtain⟨v5,p5⟩:=mid.res.cell 5 (by omega)
 obtain⟨v6,p6⟩:=mid.res.cell 6 (by omega)
 obtain⟨v7,p7⟩:=mid.res.cell 7 (by omega)
 obtain⟨v8,p8⟩:=mid.res.cell 8 (by omega)
 obtain⟨v9,p9⟩:=mid.res.cell 9 (by omega)
 have g0:=mid.res.thaw 0
 have g1:=mid.res.thaw 1
 have g2:=mid.res.thaw 2
 have g3:=mid.res.thaw 3
 have g4:=mid.res.thaw 4
 have g5:=mid.res.thaw 5
 have g6:=mid.res.thaw 6
 have g7:=mid.res.thaw 7
 have g8:=mid.res.thaw 8
 have g9:=mid.res.thaw 9
 go_wp2_with fail
 have mid:=(((((((mid.setRef K.ref).setEsc false).setHex K.hex).setPct K.pct).setFar K.far).setMode 10 10 rfl).setKind 0)
 refine qap Tryz.results96 (w.heap.size+1) _ Tryz.underlying162 rfl (by kernel_rfl) rfl mid.res rfl _ _ _ _ _ _ _ _ _ _ ?_
 exact⟨rfl,qaw mid.below (by simp) _ _ _ _ _ _ _ _ _ _⟩
set_option maxRecDepth 100000 in
set_option maxHeartbeats 3200000 in
theorem q1c (s:Pl.St) (k:Pl.Mk) (b:UInt8) (w:World) (ht:PTabs w) (hx:-1000≤k.hex∧k.hex≤1000) (hy:-1000≤k.pct∧k.pct≤1000) (he:s.esc=false) (tq:Nat) (hm:s.mode=tq) (h3:¬ tq=3) (h5:¬ tq=5) (h4:¬ tq=4) (h10:¬ tq=10) (h34:¬ tq=34) :
  Calls Tryz.prog 96 #[qad ⟨s,k⟩,.int .u8 tq,.int .u8 b.toNat] w fun e w'=>e=.returned (qad (Pl.Sx.led ⟨s,k⟩ tq b))∧Below w.heap.size w w':=by
 have HV:Hid (Pl.Sx.led ⟨s,k⟩ tq b=⟨⟨tq,s.name,s.elem,s.kind,s.read,false⟩,Pl.qam s.kind s.mode k b⟩):=by
  show Pl.Sx.mk _ _=_
  have h1:s.led tq b=⟨tq,s.name,s.elem,s.kind,s.read,s.esc⟩:=by unfold Pl.St.led; rw[if_pos hm.symm]; unfold Pl.St.led1; rw[if_neg h3,if_neg h5,if_neg (by omega),if_neg h34]
  have h2:Pl.qcq s k tq b=Pl.qam s.kind s.mode k b:=by unfold Pl.qcq; rw[if_pos ⟨hm.symm,by omega⟩]
  show Pl.Sx.mk (s.led tq b) (Pl.qcq s k tq b)=_
  rw[h1,h2,he]
 rw[HV.out]
 have hS:=fun w=>qey ⟨s,k⟩ b w hx hy
 have HM:=fun t t' cs hc=>Mid.start ⟨s,k⟩ ht cs t t' hc
 generalize Pl.qam s.kind s.mode k b=K at hS ⊢
 unfold qd4 qcw at hS
 unfold qad at hS ⊢
 unfold qab bs at hS HM ⊢
 simp only at hS HM ⊢
 rw[he,hm]at hS HM ⊢
 have HS:=(show Hid _ from hS)
 have HMM:=(show Hid _ from HM)
 clear hS HV HM ht hx hy
 have q3:((tq:Int)==3)=false:=by rw[beq_eq_false_iff_ne]; omega
 have q5:((tq:Int)==5)=false:=by rw[beq_eq_false_iff_ne]; omega
 have q4:((tq:Int)==4)=false:=by rw[beq_eq_false_iff_ne]; omega
 have q10:((tq:Int)==10)=false:=by rw[beq_eq_false_iff_ne]; omega
 have q34:((tq:Int)==34)=false:=by rw[beq_eq_false_iff_ne]; omega
 clear h3 h5 h4 h10 h34
 go_enter Tryz.func96,Tryz.ntmps96
 go_wp2_with fail
 refine(HS.out _).mono ?_
 rintro e w1 ⟨rfl,hb1⟩
 have mid:=(HMM.out _ _ _ rfl).kept hb1
 clear hb1 HS HMM
 have q0:=mid.at'.mode
 have q1:=mid.at'.name
 have q2:=mid.at'.elem
 have q3:=mid.at'.kind
 have q4:=mid.at'.read
 have q5:=mid.at'.ref
 have q6:=mid.at'.esc
 have q7:=mid.at'.hex
 have q8:=mid.at'.pct
 have q9:=mid.at'.far
 have f0:=mid.slot.thaw 0
 have f1:=mid.slot.thaw 1
 have f2:=mid.slot.thaw 2
 have f3:=mid.slot.thaw 3
 have f4:=mid.slot.thaw 4
 have f5:=mid.slot.thaw 5
 have f6:=mid.slot.thaw 6
 have f7:=mid.slot.thaw 7
 have f8:=mid.slot.thaw 8
 have f9:=mid.slot.thaw 9
 obtain⟨v0,p0⟩:=mid.res.cell 0 (by omega)
 obtain⟨v1,p1⟩:=mid.res.cell 1 (by omega)
 obtain⟨v2,p2⟩:=mid.res.cell 2 (by omega)
 obtain⟨v3,p3⟩:=mid.res.cell 3 (by omega)
 obtain⟨v4,p4⟩:=mid.res.cell 4 (by omega)
 obtain⟨v5,p5⟩:=mid.res.cell 5 (by omega)
 obtain⟨v6,p6⟩:=mid.res.cell 6 (by omega)
 obtain⟨v7,p7⟩:=mid.res.cell 7 (by omega)
 obtain⟨v8,p8⟩:=mid.res.cell 8 (by omega)
 obtain⟨v9,p9⟩:=mid.res.cell 9 (by omega)
 have g0:=mid.res.thaw 0
 have g1:=mid.res.thaw 1
 have g2:=mid.res.thaw 2
 have g3:=mid.res.thaw 3
 have g4:=mid.res.thaw 4
 have g5:=mid.res.thaw 5
 have g6:=mid.res.thaw 6
 have g7:=mid.res.thaw 7
 have g8:=mid.res.thaw 8
 have g9:=mid.res.thaw 9
 go_wp2_with fail
 have mid:=((((((mid.setRef K.ref).setEsc false).setHex K.hex).setPct K.pct).setFar K.far).setMode tq tq rfl)
 refine qap Tryz.results96 (w.heap.size+1) _ Tryz.underlying162 rfl (by kernel_rfl) rfl mid.res rfl _ _ _ _ _ _ _ _ _ _ ?_
 exact⟨rfl,qaw mid.below (by simp) _ _ _ _ _ _ _ _ _ _⟩
set_option maxRecDepth 100000 in
set_option maxHeartbeats 3200000 in
theorem q6n (s:Pl.St) (k:Pl.Mk) (b:UInt8) (w:World) (ht:PTabs w) (he:s.esc=false) (hm:¬ 3=s.mode) :
  Calls Tryz.prog 96 #[qad ⟨s,k⟩,.int .u8 3,.int .u8 b.toNat] w fun e w'=>e=.returned (qad (Pl.Sx.led ⟨s,k⟩ 3 b))∧Below w.heap.size w w':=by
 have qn:((3:Int)==(s.mode:Int))=false:=by rw[beq_eq_false_iff_ne]; omega
 have hN:∀ w,PTabs w→_:=fun w h=>qhc ⟨s,k⟩ w h
 have hl:Pl.Sx.led ⟨s,k⟩ 3 b=⟨s.named.led1 3 b,Pl.Mk.none⟩:=by
  show Pl.Sx.mk (s.led 3 b) (Pl.qcq s k 3 b)=_
  have h1:s.led 3 b=s.named.led1 3 b:=by unfold Pl.St.led; rw[if_neg hm]
  have h2:Pl.qcq s k 3 b=Pl.Mk.none:=by unfold Pl.qcq; rw[if_neg (fun q=>hm q.1)]
  rw[h1,h2]
 rw[hl]
 clear hl hm
 have hn:s.named.name=[]:=rfl
 have hen:s.named.esc=false:=he
 simp only at hN
 generalize s.named=n at hN hn hen ⊢
 obtain⟨m',n',e',k',r',x'⟩:=n
 simp only at hn hen
 subst hn hen
 have HV:Hid ((⟨m',[],e',k',r',false⟩:Pl.St).led1 3 b=⟨3,Pl.qdg [] b,e',k',r',false⟩):=rfl
 rw[HV.out]
 unfold qad qab bs Pl.Mk.none at *
 simp only at hN ⊢
 rw[he]at hN ⊢
 clear he
 have HN:=(show Hid _ from hN)
 clear hN HV
 go_enter Tryz.func96,Tryz.ntmps96
 go_wp2_with (first | (go_at_call 134; refine(HN.out _ (by repeat (first | exact ht | apply PTabs.alloc | apply PTabs.drew))).mono ?_; rintro e w' ⟨rfl,rfl⟩) | (go_at_call 135; refine(qhw [] b _ (by simp) (by simp)).mono ?_; rintro e w' ⟨rfl,rfl⟩))
 refine qaz Tryz.results96 (w.heap.size+1) _ _ Tryz.underlying162 rfl rfl (qv0 w _ _ _ _ _) (by kernel_rfl) rfl ?_
 exact⟨rfl,(by repeat (first | refine Below.alloc ?_ (by simp<;>omega) _ | exact Below.refl _ _))⟩
set_option maxRecDepth 100000 in
set_option maxHeartbeats 3200000 in
theorem q6l (s:Pl.St) (k:Pl.Mk) (b:UInt8) (w:World) (ht:PTabs w) (he:s.esc=false) (hm:¬ 5=s.mode) :
  Calls Tryz.prog 96 #[qad ⟨s,k⟩,.int .u8 5,.int .u8 b.toNat] w fun e w'=>e=.returned (qad (Pl.Sx.led ⟨s,k⟩ 5 b))∧Below w.heap.size w w':=by
 have qn:((5:Int)==(s.mode:Int))=false:=by rw[beq_eq_false_iff_ne]; omega
 have hN:∀ w,PTabs w→_:=fun w h=>qhc ⟨s,k⟩ w h
 have hl:Pl.Sx.led ⟨s,k⟩ 5 b=⟨s.named.led1 5 b,Pl.Mk.none⟩:=by
  show Pl.Sx.mk (s.led 5 b) (Pl.qcq s k 5 b)=_
  have h1:s.led 5 b=s.named.led1 5 b:=by unfold Pl.St.led; rw[if_neg hm]
  have h2:Pl.qcq s k 5 b=Pl.Mk.none:=by unfold Pl.qcq; rw[if_neg (fun q=>hm q.1)]
  rw[h1,h2]
 rw[hl]
 clear hl hm
 have hn:s.named.name=[]:=rfl
 have hen:s.named.esc=false:=he
 simp only at hN
 generalize s.named=n at hN hn hen ⊢
 obtain⟨m',n',e',k',r',x'⟩:=n
 simp only at hn hen
 subst hn hen
 have HV:Hid ((⟨m',[],e',k',r',false⟩:Pl.St).led1 5 b=⟨5,Pl.qdg [] b,e',0,r',false⟩):=rfl
 rw[HV.out]
 unfold qad qab bs Pl.Mk.none at *
 simp only at hN ⊢
 rw[he]at hN ⊢
 clear he
 have HN:=(show Hid _ from hN)
 clear hN HV
 go_enter Tryz.func96,Tryz.ntmps96
 go_wp2_with (first | (go_at_call 134; refine(HN.out _ (by repeat (first | exact ht | apply PTabs.alloc | apply PTabs.drew))).mono ?_; rintro e w' ⟨rfl,rfl⟩) | (go_at_call 135; refine(qhw [] b _ (by simp) (by simp)).mono ?_; rintro e w' ⟨rfl,rfl⟩))
 refine qaz Tryz.results96 (w.heap.size+1) _ _ Tryz.underlying162 rfl rfl (qv0 w _ _ _ _ _) (by kernel_rfl) rfl ?_
 exact⟨rfl,(by repeat (first | refine Below.alloc ?_ (by simp<;>omega) _ | exact Below.refl _ _))⟩
set_option maxRecDepth 100000 in
set_option maxHeartbeats 3200000 in
theorem q6m (s:Pl.St) (k:Pl.Mk) (b:UInt8) (w:World) (ht:PTabs w) (he:s.esc=false) (hm:¬ 4=s.mode) :
  Calls Tryz.prog 96 #[qad ⟨s,k⟩,.int .u8 4,.int .u8 b.toNat] w fun e w'=>e=.returned (qad (Pl.Sx.led ⟨s,k⟩ 4 b))∧Below w.heap.size w w':=by
 have qn:((4:Int)==(s.mode:Int))=false:=by rw[beq_eq_false_iff_ne]; omega
 have hN:∀ w,PTabs w→_:=fun w h=>qhc ⟨s,k⟩ w h
 have hl:Pl.Sx.led ⟨s,k⟩ 4 b=⟨s.named.led1 4 b,Pl.Mk.none⟩:=by
  show Pl.Sx.mk (s.led 4 b) (Pl.qcq s k 4 b)=_
  have h1:s.led 4 b=s.named.led1 4 b:=by unfold Pl.St.led; rw[if_neg hm]
  have h2:Pl.qcq s k 4 b=Pl.Mk.none:=by unfold Pl.qcq; rw[if_neg (fun q=>hm q.1)]
  rw[h1,h2]
 rw[hl]
 clear hl hm
 have hn:s.named.name=[]:=rfl
 have hen:s.named.esc=false:=he
 simp only at hN
 generalize s.named=n at hN hn hen ⊢
 obtain⟨m',n',e',k',r',x'⟩:=n
 simp only at hn hen
 subst hn hen
 have HV:Hid ((⟨m',[],e',k',r',false⟩:Pl.St).led1 4 b=⟨4,[],e',0,r',false⟩):=rfl
 rw[HV.out]
 unfold qad qab bs Pl.Mk.none at *
 simp only at hN ⊢
 rw[he]at hN ⊢
 clear he
 have HN:=(show Hid _ from hN)
 clear hN HV
 go_enter Tryz.func96,Tryz.ntmps96
 go_wp2_with (first | (go_at_call 134; refine(HN.out _ (by repeat (first | exact ht | apply PTabs.alloc | apply PTabs.drew))).mono ?_; rintro e w' ⟨rfl,rfl⟩))
 refine qaz Tryz.results96 (w.heap.size+1) _ _ Tryz.underlying162 rfl rfl (qe3 w _ _ _ _) (by kernel_rfl) rfl ?_
 exact⟨rfl,(by repeat (first | refine Below.alloc ?_ (by simp<;>omega) _ | exact Below.refl _ _))⟩
set_option maxRecDepth 100000 in
set_option maxHeartbeats 3200000 in
theorem q3x (s:Pl.St) (k:Pl.Mk) (b:UInt8) (w:World) (ht:PTabs w) (he:s.esc=false) (hm:¬ 10=s.mode) :
  Calls Tryz.prog 96 #[qad ⟨s,k⟩,.int .u8 10,.int .u8 b.toNat] w fun e w'=>e=.returned (qad (Pl.Sx.led ⟨s,k⟩ 10 b))∧Below w.heap.size w w':=by
 have qn:((10:Int)==(s.mode:Int))=false:=by rw[beq_eq_false_iff_ne]; omega
 have hN:∀ w,PTabs w→_:=fun w h=>qhc ⟨s,k⟩ w h
 have hl:Pl.Sx.led ⟨s,k⟩ 10 b=⟨s.named.led1 10 b,Pl.Mk.none⟩:=by
  show Pl.Sx.mk (s.led 10 b) (Pl.qcq s k 10 b)=_
  have h1:s.led 10 b=s.named.led1 10 b:=by unfold Pl.St.led; rw[if_neg hm]
  have h2:Pl.qcq s k 10 b=Pl.Mk.none:=by unfold Pl.qcq; rw[if_neg (fun q=>hm q.1)]
  rw[h1,h2]
 rw[hl]
 clear hl hm
 have hn:s.named.name=[]:=rfl
 have hen:s.named.esc=false:=he
 simp only at hN
 generalize s.named=n at hN hn hen ⊢
 obtain⟨m',n',e',k',r',x'⟩:=n
 simp only at hn hen
 subst hn hen
 have HV:Hid ((⟨m',[],e',k',r',false⟩:Pl.St).led1 10 b=⟨10,[],e',0,r',false⟩):=rfl
 rw[HV.out]
 unfold qad qab bs Pl.Mk.none at *
 simp only at hN ⊢
 rw[he]at hN ⊢
 clear he
 have HN:=(show Hid _ from hN)
 clear hN HV
 go_enter Tryz.func96,Tryz.ntmps96
 go_wp2_with (first | (go_at_call 134; refine(HN.out _ (by repeat (first | exact ht | apply PTabs.alloc | apply PTabs.drew))).mono ?_; rintro e w' ⟨rfl,rfl⟩))
 refine qaz Tryz.results96 (w.heap.size+1) _ _ Tryz.underlying162 rfl rfl (qe3 w _ _ _ _) (by kernel_rfl) rfl ?_
 exact⟨rfl,(by repeat (first | refine Below.alloc ?_ (by simp<;>omega) _ | exact Below.refl _ _))⟩
set_option maxRecDepth 100000 in
set_option maxHeartbeats 3200000 in
theorem q3w (s:Pl.St) (k:Pl.Mk) (b:UInt8) (w:World) (ht:PTabs w) (he:s.esc=false) (hm:¬ 34=s.mode) :
  Calls Tryz.prog 96 #[qad ⟨s,k⟩,.int .u8 34,.int .u8 b.toNat] w fun e w'=>e=.returned (qad (Pl.Sx.led ⟨s,k⟩ 34 b))∧Below w.heap.size w w':=by
 have qn:((34:Int)==(s.mode:Int))=false:=by rw[beq_eq_false_iff_ne]; omega
 have hN:∀ w,PTabs w→_:=fun w h=>qhc ⟨s,k⟩ w h
 have hl:Pl.Sx.led ⟨s,k⟩ 34 b=⟨s.named.led1 34 b,Pl.Mk.none⟩:=by
  show Pl.Sx.mk (s.led 34 b) (Pl.qcq s k 34 b)=_
  have h1:s.led 34 b=s.named.led1 34 b:=by unfold Pl.St.led; rw[if_neg hm]
  have h2:Pl.qcq s k 34 b=Pl.Mk.none:=by unfold Pl.qcq; rw[if_neg (fun q=>hm q.1)]
  rw[h1,h2]
 rw[hl]
 clear hl hm
 have hn:s.named.name=[]:=rfl
 have hen:s.named.esc=false:=he
 simp only at hN
 generalize s.named=n at hN hn hen ⊢
 obtain⟨m',n',e',k',r',x'⟩:=n
 simp only at hn hen
 subst hn hen
 have HV:Hid ((⟨m',[],e',k',r',false⟩:Pl.St).led1 34 b=Pl.qac e'):=rfl
 rw[HV.out]
 have hW:∀ w,PTabs w→_:=fun w h=>qxj e' w h
 generalize Pl.qac e'=v at hW HV ⊢
 obtain⟨m2,n2,e2,k2,r2,x2⟩:=v
 unfold qad qab bs Pl.Mk.none at hW
 simp only at hW
 have HW:=(show Hid _ from hW)
 clear hW
 unfold qad qab bs Pl.Mk.none at *
 simp only at hN ⊢
 rw[he]at hN ⊢
 clear he
 have HN:=(show Hid _ from hN)
 clear hN HV
 go_enter Tryz.func96,Tryz.ntmps96
 go_wp2_with (first | (go_at_call 134; refine(HN.out _ (by repeat (first | exact ht | apply PTabs.alloc | apply PTabs.drew))).mono ?_; rintro e w' ⟨rfl,rfl⟩) | (go_at_call 136; refine(HW.out _ (by repeat (first | exact ht | apply PTabs.alloc | apply PTabs.drew))).mono ?_; rintro e w' ⟨rfl,rfl⟩))
 refine qaz Tryz.results96 (w.heap.size+1) _ _ Tryz.underlying162 rfl rfl (qv0 w _ _ _ _ _) (by kernel_rfl) rfl ?_
 exact⟨rfl,(by repeat (first | refine Below.alloc ?_ (by simp<;>omega) _ | exact Below.refl _ _))⟩
set_option maxRecDepth 100000 in
set_option maxHeartbeats 3200000 in
theorem q6k (s:Pl.St) (k:Pl.Mk) (b:UInt8) (w:World) (ht:PTabs w) (he:s.esc=false) (tq:Nat) (h3:¬ tq=3) (h5:¬ tq=5) (h4:¬ tq=4) (h10:¬ tq=10) (h34:¬ tq=34) (hm:¬ tq=s.mode) :
  Calls Tryz.prog 96 #[qad ⟨s,k⟩,.int .u8 (tq:Nat),.int .u8 b.toNat] w fun e w'=>e=.returned (qad (Pl.Sx.led ⟨s,k⟩ tq b))∧Below w.heap.size w w':=by
 have qn:(((tq:Nat):Int)==(s.mode:Int))=false:=by rw[beq_eq_false_iff_ne]; omega
 have q3:((tq:Int)==3)=false:=by rw[beq_eq_false_iff_ne]; omega
 have q5:((tq:Int)==5)=false:=by rw[beq_eq_false_iff_ne]; omega
 have q4:((tq:Int)==4)=false:=by rw[beq_eq_false_iff_ne]; omega
 have q10:((tq:Int)==10)=false:=by rw[beq_eq_false_iff_ne]; omega
 have q34:((tq:Int)==34)=false:=by rw[beq_eq_false_iff_ne]; omega
 have hN:∀ w,PTabs w→_:=fun w h=>qhc ⟨s,k⟩ w h
 have hl:Pl.Sx.led ⟨s,k⟩ tq b=⟨s.named.led1 tq b,Pl.Mk.none⟩:=by
  show Pl.Sx.mk (s.led tq b) (Pl.qcq s k tq b)=_
  have h1:s.led tq b=s.named.led1 tq b:=by unfold Pl.St.led; rw[if_neg hm]
  have h2:Pl.qcq s k tq b=Pl.Mk.none:=by unfold Pl.qcq; rw[if_neg (fun q=>hm q.1)]
  rw[h1,h2]
 rw[hl]
 clear hl hm
 have hn:s.named.name=[]:=rfl
 have hen:s.named.esc=false:=he
 simp only at hN
 generalize s.named=n at hN hn hen ⊢
 obtain⟨m',n',e',k',r',x'⟩:=n
 simp only at hn hen
 subst hn hen
 have HV:Hid ((⟨m',[],e',k',r',false⟩:Pl.St).led1 tq b=⟨tq,[],e',k',r',false⟩):=(by show _=_; unfold Pl.St.led1; rw[if_neg h3,if_neg h5,if_neg (by omega),if_neg h34])
 rw[HV.out]
 clear h3 h5 h4 h10 h34
 unfold qad qab bs Pl.Mk.none at *
 simp only at hN ⊢
 rw[he]at hN ⊢
 clear he
 have HN:=(show Hid _ from hN)
 clear hN HV
 go_enter Tryz.func96,Tryz.ntmps96
 go_wp2_with (first | (go_at_call 134; refine(HN.out _ (by repeat (first | exact ht | apply PTabs.alloc | apply PTabs.drew))).mono ?_; rintro e w' ⟨rfl,rfl⟩))
 refine qaz Tryz.results96 (w.heap.size+1) _ _ Tryz.underlying162 rfl rfl (qe3 w _ _ _ _) (by kernel_rfl) rfl ?_
 exact⟨rfl,(by repeat (first | refine Below.alloc ?_ (by simp<;>omega) _ | exact Below.refl _ _))⟩
theorem qg3 (x:Pl.Sx) (tq:Nat) (b:UInt8) (w:World) (ht:PTabs w) (hn:x.st.name.length≤9) (hm:x.st.mode≤33) (he:x.st.esc=false) (hx:-1000≤x.ma.hex∧x.ma.hex≤1000) (hy:-1000≤x.ma.pct∧x.ma.pct≤1000) :
  Calls Tryz.prog 96 #[qad x,.int .u8 tq,.int .u8 b.toNat] w fun e w'=>e=.returned (qad (x.led tq b))∧Below w.heap.size w w':=by
 obtain⟨s,k⟩:=x
 simp only at hn hm he hx hy
 by_cases hs:s.mode=tq
 ·subst hs
  by_cases h3:s.mode=3
  ·by_cases h9:s.name.length=9
   ·have:=qyy s k b w ht hx hy he h3 h9
    rw[h3]; exact this
   ·have:=qyx s k b w ht hx hy he h3 hn h9
    rw[h3]; exact this
  by_cases h5:s.mode=5
  ·by_cases h9:s.name.length=9
   ·have:=qyw s k b w ht hx hy he h5 h9
    rw[h5]; exact this
   ·have:=qyv s k b w ht hx hy he h5 hn h9
    rw[h5]; exact this
  by_cases h4:s.mode=4
  ·have:=q1d s k b w ht hx hy he h4
   rw[h4]; exact this
  by_cases h10:s.mode=10
  ·have:=qyz s k b w ht hx hy he h10
   rw[h10]; exact this
  exact q1c s k b w ht hx hy he s.mode rfl h3 h5 h4 h10 (by omega)
 ·have he':¬ tq=s.mode:=fun e=>hs e.symm
  by_cases h3:tq=3
  ·subst h3; exact q6n s k b w ht he he'
  by_cases h5:tq=5
  ·subst h5; exact q6l s k b w ht he he'
  by_cases h4:tq=4
  ·subst h4; exact q6m s k b w ht he he'
  by_cases h10:tq=10
  ·subst h10; exact q3x s k b w ht he he'
  by_cases h34:tq=34
  ·subst h34; exact q3w s k b w ht he he'
  exact q6k s k b w ht he tq h3 h5 h4 h10 h34 he'
end Go.Proofs.YtfkhljmiehdgmaaGreatDoor
