/-
  Steps of the proof (texts laid together, blanks left out): PgWL.
-/
import Derived.Test.YtfkhljmiehdgmaaGreatDoorTaAE
import Derived.Test.YtfkhljmiehdgmaaGreatDoorTaBJ
import Derived.Test.YtfkhljmiehdgmaaGreatDoorTaBL
import Derived.Test.YtfkhljmiehdgmaaGreatDoorTaBI
namespace Go.Proofs.YtfkhljmiehdgmaaGreatDoor
open Go.RowKit
set_option maxRecDepth 100000 in
set_option maxHeartbeats 3200000 in
theorem qt5 (s:Pl.St) (k:Pl.Mk) (b:UInt8) (w:World) (ht:PTabs w) (hn:s.name.length≤9) (hm33:s.mode≤33) (hx:-1000≤k.hex∧k.hex≤1000) (hy:-1000≤k.pct∧k.pct≤1000) (hm:¬ 19≤s.mode) (hesc:Pl.qat.getD s.mode false=false) (hx0:s.esc=false) (R:Nat) (hT:Pl.qa1 s.mode b=0) (hR:Pl.qbi.getD s.mode 0=R) (h0:R≠0) (hR33:R≤33) (hRR:Pl.qbi.getD R 0=0) (hT1:Pl.qa1 R b=0) :
  Calls Tryz.prog 63 #[qad ⟨s,k⟩,.int .u8 b.toNat] w fun e w'=>e=.returned (qad (Pl.Sx.behind ⟨s,k⟩ b))∧Below w.heap.size w w':=by
 have HV:Hid (Pl.Sx.behind ⟨s,k⟩ b=Pl.Sx.led ⟨⟨R,s.name,s.elem,s.kind,s.read,s.esc⟩,k⟩ (Pl.or3 (Pl.qa1 R b) (Pl.qar.getD R 0) R) b):=by
  show _=_
  have hrd:s.nowRead b=s.read:=by unfold Pl.St.nowRead; rw[if_neg hm]
  obtain⟨h1,h2⟩:=Pl.at_c s.mode R b hT hR h0
  rw[Pl.qjj ⟨s,k⟩ b _ _ (fun q=>hm q.1) (by show (Pl.qat.getD s.mode false && _)=false; rw[hesc]; rfl) h1 h2]
  simp only
  rw[hrd]
 rw[HV.out]
 clear HV
 have hL:=fun w h=>qg3 ⟨⟨R,s.name,s.elem,s.kind,s.read,s.esc⟩,k⟩ (Pl.or3 (Pl.qa1 R b) (Pl.qar.getD R 0) R) b w h hn hR33 hx0 hx hy
 have hO:=fun(w:World) (h:PTabs w)=>qb5 h.ot R (by show _<34; omega)
 generalize Pl.qar.getD R 0=O at hO hL ⊢
 have hS:=fun w h=>qb8 s.mode b w h
 rw[hT]at hS
 have hS1:=fun w h=>qb8 R b w h
 have hRd:=fun(w:World) (h:PTabs w)=>qb5 h.rd s.mode (by show _<34; omega)
 have hRd1:=fun(w:World) (h:PTabs w)=>qb5 h.rd R (by show _<34; omega)
 rw[hR]at hRd
 rw[hRR]at hRd1
 have hR0:((R:Int) != 0)=true:=by rw[bne_iff_ne]; omega
 have hR34:(R:Int)<34:=by omega
 rw[hT1]at hS1 hL ⊢
 clear hT hT1 hR h0 hRR
 have hC:=fun(w:World) (h:PTabs w)=>qed h.es s.mode (by show _<34; omega)
 rw[hesc]at hC
 clear hesc
 have HM:=(show Hid _ from fun t t' cs hc=>Mid.start ⟨s,k⟩ ht cs t t' hc)
 have hm':decide ((19:Int)≤(s.mode:Int))=false:=by rw[decide_eq_false_iff_not]; omega
 have hm34:(s.mode:Int)<34:=by omega
 generalize Pl.Sx.led _ _ _=Y at hL ⊢
 obtain⟨⟨m1,n1,e1,k1,r1,x1⟩,⟨y5,y7,y8,y9⟩⟩:=Y
 unfold qad at hL ⊢
 unfold qab bs at hL HM ⊢
 simp only at hL HM ⊢
 rw[hx0]at hL HM ⊢
 have HX0:=(show Hid _ from hx0)
 clear hx0
 have HL':=(show Hid _ from hL)
 clear hL hx hy
 have HC:=(show Hid _ from hC)
 clear hC
 have HO:=(show Hid _ from hO)
 have HS:=(show Hid _ from hS)
 clear hO hS
 have HRD:=(show Hid _ from hRd)
 clear hRd
 have HRD1:=(show Hid _ from hRd1)
 have HS1:=(show Hid _ from hS1)
 clear hRd1 hS1
 go_enter Tryz.func63,Tryz.ntmps63
 go_wp2
 have mid:=HM.out 162 162 _ (rfl:(#[.int .u8 0,.string ⟨#[]⟩,.string ⟨#[]⟩,.int .i64 0,.int .i64 0,.bool false,.bool false,.int .i64 0,.int .i64 0,.int .i64 0]:Array Value).size=10)
 clear HM
 generalize World.alloc _ _=w3 at mid ⊢
 have q0:=mid.at'.mode
 have q1:=mid.at'.name
 have q2:=mid.at'.elem
 have q3:=mid.at'.kind
 have q4:=mid.at'.read
 have q5:=mid.at'.ref
 have q6:=mid.at'.esc
 have q7:=mid.at'.hex
 have q8:=mid.at'.pct
 have q9:=mid.at'.far
 have f0:=mid.slot.thaw 0
 have f1:=mid.slot.thaw 1
 have f2:=mid.slot.thaw 2
 have f3:=mid.slot.thaw 3
 have f4:=mid.slot.thaw 4
 have f5:=mid.slot.thaw 5
 have f6:=mid.slot.thaw 6
 have f7:=mid.slot.thaw 7
 have f8:=mid.slot.thaw 8
 have f9:=mid.slot.thaw 9
 dsimp only at q0 q1 q2 q3 q4 q5 q6 q7 q8 q9
 rw[HX0.out]at q6
 have c0:=HC.out _ mid.tabs
 refine qfq 0 rfl ?_
 generalize hQ:Exit.jump 0 _ _=QQ
 have HQ:=(show Hid _ from hQ)
 clear hQ
 go_wp2_with fail
 go_step3
 go_wp2_with fail
 refine(HS.out _ mid.tabs).mono ?_
 rintro e w' ⟨rfl,rfl⟩
 clear q0 q1 q2 q3 q4 q5 q6 q7 q8 q9 f0 f1 f2 f3 f4 f5 f6 f7 f8 f9 c0
 have q0:=mid.at'.mode
 have q1:=mid.at'.name
 have q2:=mid.at'.elem
 have q3:=mid.at'.kind
 have q4:=mid.at'.read
 have q5:=mid.at'.ref
 have q6:=mid.at'.esc
 have q7:=mid.at'.hex
 have q8:=mid.at'.pct
 have q9:=mid.at'.far
 have f0:=mid.slot.thaw 0
 have f1:=mid.slot.thaw 1
 have f2:=mid.slot.thaw 2
 have f3:=mid.slot.thaw 3
 have f4:=mid.slot.thaw 4
 have f5:=mid.slot.thaw 5
 have f6:=mid.slot.thaw 6
 have f7:=mid.slot.thaw 7
 have f8:=mid.slot.thaw 8
 have f9:=mid.slot.thaw 9
 dsimp only at q0 q1 q2 q3 q4 q5 q6 q7 q8 q9
 rw[HX0.out]at q6
 have c1:=HRD.out _ mid.tabs
 go_wp2_with fail
 go_step3
 rw[← HQ.out]
 clear HQ
 refine⟨rfl,?_⟩
 have mid4:=mid.setMode R R rfl
 clear q0 q1 q2 q3 q4 q5 q6 q7 q8 q9 f0 f1 f2 f3 f4 f5 f6 f7 f8 f9 c1 mid
 generalize World.setCell _ _ _=w5 at mid4 ⊢
 have mid:=mid4
 clear mid4
 have q0:=mid.at'.mode
 have q1:=mid.at'.name
 have q2:=mid.at'.elem
 have q3:=mid.at'.kind
 have q4:=mid.at'.read
 have q5:=mid.at'.ref
 have q6:=mid.at'.esc
 have q7:=mid.at'.hex
 have q8:=mid.at'.pct
 have q9:=mid.at'.far
 have f0:=mid.slot.thaw 0
 have f1:=mid.slot.thaw 1
 have f2:=mid.slot.thaw 2
 have f3:=mid.slot.thaw 3
 have f4:=mid.slot.thaw 4
 have f5:=mid.slot.thaw 5
 have f6:=mid.slot.thaw 6
 have f7:=mid.slot.thaw 7
 have f8:=mid.slot.thaw 8
 have f9:=mid.slot.thaw 9
 have a0:=fun o=>(mid.alloc o).at'.mode
 have a1:=fun o=>(mid.alloc o).at'.name
 have a2:=fun o=>(mid.alloc o).at'.elem
 have a3:=fun o=>(mid.alloc o).at'.kind
 have a4:=fun o=>(mid.alloc o).at'.read
 have a5:=fun o=>(mid.alloc o).at'.ref
 have a6:=fun o=>(mid.alloc o).at'.esc
 have a7:=fun o=>(mid.alloc o).at'.hex
 have a8:=fun o=>(mid.alloc o).at'.pct
 have a9:=fun o=>(mid.alloc o).at'.far
 dsimp only at q0 q1 q2 q3 q4 q5 q6 q7 q8 q9 a0 a1 a2 a3 a4 a5 a6 a7 a8 a9
 simp only[HX0.out]at q6 a6
 go_wp2_with fail
 refine(HS1.out _ mid.tabs).mono ?_
 rintro e w' ⟨rfl,rfl⟩
 have c2:=HO.out _ mid.tabs
 have d1:=HRD1.out _ mid.tabs
 go_wp2_with fail
 go_region_with (first
  | (go_at_call 97; refine(qg2 0 O R _ _ _ (by simp)).mono ?_; rintro e w' ⟨rfl,rfl⟩)
  | (go_at_call 96; refine(HL'.out _ (mid.alloc _).drew.tabs).mono ?_; rintro e w1 ⟨rfl,hb1⟩
     have mid9:=(mid.alloc _).drew.kept hb1
     obtain⟨v0,p0⟩:=mid9.res.cell 0 (by omega)
     obtain⟨v1,p1⟩:=mid9.res.cell 1 (by omega)
     obtain⟨v2,p2⟩:=mid9.res.cell 2 (by omega)
     obtain⟨v3,p3⟩:=mid9.res.cell 3 (by omega)
     obtain⟨v4,p4⟩:=mid9.res.cell 4 (by omega)
     obtain⟨v5,p5⟩:=mid9.res.cell 5 (by omega)
     obtain⟨v6,p6⟩:=mid9.res.cell 6 (by omega)
     obtain⟨v7,p7⟩:=mid9.res.cell 7 (by omega)
     obtain⟨v8,p8⟩:=mid9.res.cell 8 (by omega)
     obtain⟨v9,p9⟩:=mid9.res.cell 9 (by omega)
     have g0:=mid9.res.thaw 0
     have g1:=mid9.res.thaw 1
     have g2:=mid9.res.thaw 2
     have g3:=mid9.res.thaw 3
     have g4:=mid9.res.thaw 4
     have g5:=mid9.res.thaw 5
     have g6:=mid9.res.thaw 6
     have g7:=mid9.res.thaw 7
     have g8:=mid9.res.thaw 8
     have g9:=mid9.res.thaw 9
     clear hb1 mid q0 q1 q2 q3 q4 q5 q6 q7 q8 q9 f0 f1 f2 f3 f4 f5 f6 f7 f8 f9 a0 a1 a2 a3 a4 a5 a6 a7 a8 a9 c2 d1))
 all_goals
  have mid:=mid9
  go_wp2
  try rw[Exit.noGoto_ret]
  refine qap Tryz.results63 (w.heap.size+1) _ Tryz.underlying162 rfl (by kernel_rfl) rfl mid.res rfl _ _ _ _ _ _ _ _ _ _ ?_
  exact⟨rfl,qaw mid.below (by simp) _ _ _ _ _ _ _ _ _ _⟩
end Go.Proofs.YtfkhljmiehdgmaaGreatDoor
