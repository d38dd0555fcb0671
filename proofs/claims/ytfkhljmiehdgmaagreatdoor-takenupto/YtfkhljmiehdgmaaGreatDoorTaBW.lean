/-
  Steps of the proof (texts laid together, blanks left out): PgWR.
-/
import Derived.Test.YtfkhljmiehdgmaaGreatDoorTaAE
import Derived.Test.YtfkhljmiehdgmaaGreatDoorTaBJ
import Derived.Test.YtfkhljmiehdgmaaGreatDoorTaBL
import Derived.Test.YtfkhljmiehdgmaaGreatDoorTaBI
namespace Go.Proofs.YtfkhljmiehdgmaaGreatDoor
open Go.RowKit
set_option maxRecDepth 100000 in
set_option maxHeartbeats 3200000 in
theorem qo3 (s:Pl.St) (k:Pl.Mk) (b:UInt8) (w:World) (ht:PTabs w) (hn:s.name.length≤9) (hm33:s.mode≤33) (hx:-1000≤k.hex∧k.hex≤1000) (hy:-1000≤k.pct∧k.pct≤1000) (hs:s.elem.length≤1000) (hm:19≤s.mode) (he:s.ends b=false) (hesc:Pl.qat.getD s.mode false=true) (hx0:s.esc=false) (hb:(b==92)=false) (hT:¬ Pl.qa1 s.mode b=0) :
  Calls Tryz.prog 63 #[qad ⟨s,k⟩,.int .u8 b.toNat] w fun e w'=>e=.returned (qad (Pl.Sx.behind ⟨s,k⟩ b))∧Below w.heap.size w w':=by
 have HV:Hid (Pl.Sx.behind ⟨s,k⟩ b=Pl.Sx.led ⟨⟨s.mode,s.name,s.elem,s.kind,(s.readEnd b),s.esc⟩,k⟩ (Pl.or3 (Pl.qa1 s.mode b) (Pl.qar.getD s.mode 0) s.mode) b):=by
  show _=_
  have hrd:s.nowRead b=(s.readEnd b):=by unfold Pl.St.nowRead; rw[if_pos hm]
  obtain⟨h1,h2⟩:=Pl.at_a s.mode b hT
  rw[Pl.qjj ⟨s,k⟩ b _ _ (fun q=>by have:=q.2; simp only at this; rw[he]at this; cases this) (by show (_ && (s.esc || _))=false; rw[hesc,hx0,hb]; rfl) h1 h2]
  simp only
  rw[hrd]
 rw[HV.out]
 clear HV
 have hL:=fun w h=>qg3 ⟨⟨s.mode,s.name,s.elem,s.kind,(s.readEnd b),s.esc⟩,k⟩ (Pl.or3 (Pl.qa1 s.mode b) (Pl.qar.getD s.mode 0) s.mode) b w h hn hm33 hx0 hx hy
 have hO:=fun(w:World) (h:PTabs w)=>qb5 h.ot s.mode (by show _<34; omega)
 generalize Pl.qar.getD s.mode 0=O at hO hL ⊢
 have hS:=fun w h=>qb8 s.mode b w h
 have hT':((Pl.qa1 s.mode b:Int)==0)=false:=by rw[beq_eq_false_iff_ne]; omega
 generalize Pl.qa1 s.mode b=T at hS hL hT hT' ⊢
 clear hT
 have hb':((b.toNat:Int)==92)=false:=(Pl.qj2 b 92 (by omega)).trans hb
 clear hb
 have hC:=fun(w:World) (h:PTabs w)=>qed h.es s.mode (by show _<34; omega)
 rw[hesc]at hC
 clear hesc
 have HM:=(show Hid _ from fun t t' cs hc=>Mid.start ⟨s,k⟩ ht cs t t' hc)
 have hE:=fun w=>qfx ⟨s,k⟩ b w hs
 simp only at hE
 rw[he]at hE
 have hRE:=fun w=>qdo ⟨s,k⟩ b w hs
 simp only at hRE
 generalize s.readEnd b=rd at *
 have hm':(19:Int)≤(s.mode:Int):=by omega
 have hm34:(s.mode:Int)<34:=by omega
 generalize Pl.Sx.led _ _ _=Y at hL ⊢
 obtain⟨⟨m1,n1,e1,k1,r1,x1⟩,⟨y5,y7,y8,y9⟩⟩:=Y
 unfold qad at hL hE hRE ⊢
 unfold qab bs at hL hE hRE HM ⊢
 simp only at hL hE hRE HM ⊢
 rw[hx0]at hL hE hRE HM ⊢
 have HX0:=(show Hid _ from hx0)
 clear hx0
 have HL':=(show Hid _ from hL)
 have HE':=(show Hid _ from hE)
 have HRE':=(show Hid _ from hRE)
 clear hL hE hRE hx hy
 have HC:=(show Hid _ from hC)
 clear hC
 have HO:=(show Hid _ from hO)
 have HS:=(show Hid _ from hS)
 clear hO hS
 go_enter Tryz.func63,Tryz.ntmps63
 go_wp2
 go_step3
 go_wp2_with fail
 refine(HE'.out _).mono ?_
 rintro e w1 ⟨rfl,hb1⟩
 have mid:=(HM.out _ _ _ rfl).kept hb1
 clear HM hb1
 have q0:=mid.at'.mode
 have q1:=mid.at'.name
 have q2:=mid.at'.elem
 have q3:=mid.at'.kind
 have q4:=mid.at'.read
 have q5:=mid.at'.ref
 have q6:=mid.at'.esc
 have q7:=mid.at'.hex
 have q8:=mid.at'.pct
 have q9:=mid.at'.far
 have f0:=mid.slot.thaw 0
 have f1:=mid.slot.thaw 1
 have f2:=mid.slot.thaw 2
 have f3:=mid.slot.thaw 3
 have f4:=mid.slot.thaw 4
 have f5:=mid.slot.thaw 5
 have f6:=mid.slot.thaw 6
 have f7:=mid.slot.thaw 7
 have f8:=mid.slot.thaw 8
 have f9:=mid.slot.thaw 9
 dsimp only at q0 q1 q2 q3 q4 q5 q6 q7 q8 q9
 rw[HX0.out]at q6
 go_wp2_with fail
 refine(HRE'.out _).mono ?_
 rintro e w2 ⟨rfl,hb2⟩
 clear q0 q1 q2 q3 q4 q5 q6 q7 q8 q9 f0 f1 f2 f3 f4 f5 f6 f7 f8 f9
 have mid2:=mid.kept hb2
 clear mid hb2
 have mid:=mid2
 clear mid2
 have q0:=mid.at'.mode
 have q1:=mid.at'.name
 have q2:=mid.at'.elem
 have q3:=mid.at'.kind
 have q4:=mid.at'.read
 have q5:=mid.at'.ref
 have q6:=mid.at'.esc
 have q7:=mid.at'.hex
 have q8:=mid.at'.pct
 have q9:=mid.at'.far
 have f0:=mid.slot.thaw 0
 have f1:=mid.slot.thaw 1
 have f2:=mid.slot.thaw 2
 have f3:=mid.slot.thaw 3
 have f4:=mid.slot.thaw 4
 have f5:=mid.slot.thaw 5
 have f6:=mid.slot.thaw 6
 have f7:=mid.slot.thaw 7
 have f8:=mid.slot.thaw 8
 have f9:=mid.slot.thaw 9
 dsimp only at q0 q1 q2 q3 q4 q5 q6 q7 q8 q9
 rw[HX0.out]at q6
 have mid3:=mid.setRead rd
 have c0:=HC.out _ mid3.tabs
 go_wp2_with fail
 go_step3
 go_wp2_with fail
 refine(HS.out _ mid3.tabs).mono ?_
 rintro e w' ⟨rfl,rfl⟩
 clear q0 q1 q2 q3 q4 q5 q6 q7 q8 q9 f0 f1 f2 f3 f4 f5 f6 f7 f8 f9 c0 mid
 generalize World.setCell _ _ _=w3 at mid3 ⊢
 have mid:=mid3
 clear mid3
 have q0:=mid.at'.mode
 have q1:=mid.at'.name
 have q2:=mid.at'.elem
 have q3:=mid.at'.kind
 have q4:=mid.at'.read
 have q5:=mid.at'.ref
 have q6:=mid.at'.esc
 have q7:=mid.at'.hex
 have q8:=mid.at'.pct
 have q9:=mid.at'.far
 have f0:=mid.slot.thaw 0
 have f1:=mid.slot.thaw 1
 have f2:=mid.slot.thaw 2
 have f3:=mid.slot.thaw 3
 have f4:=mid.slot.thaw 4
 have f5:=mid.slot.thaw 5
 have f6:=mid.slot.thaw 6
 have f7:=mid.slot.thaw 7
 have f8:=mid.slot.thaw 8
 have f9:=mid.slot.thaw 9
 have a0:=fun o=>(mid.alloc o).at'.mode
 have a1:=fun o=>(mid.alloc o).at'.name
 have a2:=fun o=>(mid.alloc o).at'.elem
 have a3:=fun o=>(mid.alloc o).at'.kind
 have a4:=fun o=>(mid.alloc o).at'.read
 have a5:=fun o=>(mid.alloc o).at'.ref
 have a6:=fun o=>(mid.alloc o).at'.esc
 have a7:=fun o=>(mid.alloc o).at'.hex
 have a8:=fun o=>(mid.alloc o).at'.pct
 have a9:=fun o=>(mid.alloc o).at'.far
 dsimp only at q0 q1 q2 q3 q4 q5 q6 q7 q8 q9 a0 a1 a2 a3 a4 a5 a6 a7 a8 a9
 simp only[HX0.out]at q6 a6
 have c2:=HO.out _ mid.tabs
 go_wp2_with fail
 go_region_with (first
  | (go_at_call 97; refine(qg2 T O s.mode _ _ _ (by simp)).mono ?_; rintro e w' ⟨rfl,rfl⟩)
  | (go_at_call 96; refine(HL'.out _ (mid.alloc _).drew.tabs).mono ?_; rintro e w1 ⟨rfl,hb1⟩
     have mid9:=(mid.alloc _).drew.kept hb1
     obtain⟨v0,p0⟩:=mid9.res.cell 0 (by omega)
     obtain⟨v1,p1⟩:=mid9.res.cell 1 (by omega)
     obtain⟨v2,p2⟩:=mid9.res.cell 2 (by omega)
     obtain⟨v3,p3⟩:=mid9.res.cell 3 (by omega)
     obtain⟨v4,p4⟩:=mid9.res.cell 4 (by omega)
     obtain⟨v5,p5⟩:=mid9.res.cell 5 (by omega)
     obtain⟨v6,p6⟩:=mid9.res.cell 6 (by omega)
     obtain⟨v7,p7⟩:=mid9.res.cell 7 (by omega)
     obtain⟨v8,p8⟩:=mid9.res.cell 8 (by omega)
     obtain⟨v9,p9⟩:=mid9.res.cell 9 (by omega)
     have g0:=mid9.res.thaw 0
     have g1:=mid9.res.thaw 1
     have g2:=mid9.res.thaw 2
     have g3:=mid9.res.thaw 3
     have g4:=mid9.res.thaw 4
     have g5:=mid9.res.thaw 5
     have g6:=mid9.res.thaw 6
     have g7:=mid9.res.thaw 7
     have g8:=mid9.res.thaw 8
     have g9:=mid9.res.thaw 9
     clear hb1 mid q0 q1 q2 q3 q4 q5 q6 q7 q8 q9 f0 f1 f2 f3 f4 f5 f6 f7 f8 f9 a0 a1 a2 a3 a4 a5 a6 a7 a8 a9 c2))
 all_goals
  have mid:=mid9
  go_wp2
  try rw[Exit.noGoto_ret]
  refine qap Tryz.results63 (w.heap.size+1) _ Tryz.underlying162 rfl (by kernel_rfl) rfl mid.res rfl _ _ _ _ _ _ _ _ _ _ ?_
  exact⟨rfl,qaw mid.below (by simp) _ _ _ _ _ _ _ _ _ _⟩
end Go.Proofs.YtfkhljmiehdgmaaGreatDoor
