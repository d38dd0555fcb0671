/-
  Steps of the proof (texts laid together, blanks left out): PgMkW, CfM, CfN, CfO, PnD, PnF.
-/
import Derived.Test.YtfkhljmiehdgmaaGreatDoorTaAD
import Derived.Test.YtfkhljmiehdgmaaGreatDoorTaAE
import Derived.Test.YtfkhljmiehdgmaaGreatDoorTaAV
namespace Go.Proofs.YtfkhljmiehdgmaaGreatDoor
open Go.RowKit
theorem qtd (b:UInt8) (w:World) (h:Pl.qa0 b Pl.hexB=true) :
  Calls Tryz.prog 130 #[.string ⟨#[48,49,50,51,52,53,54,55,56,57,97,98,99,100,101,102,65,66,67,68,69,70]⟩,.int .u8 b.toNat] w fun e w'=>∃ x:Int,0≤x∧e=.returned (.int .i64 x)∧w=w':=
 qb2 b _ Pl.hexB w rfl h
theorem qvz (b:UInt8) (w:World) (h:Pl.qa0 b Pl.hexB=false) :
  Calls Tryz.prog 130 #[.string ⟨#[48,49,50,51,52,53,54,55,56,57,97,98,99,100,101,102,65,66,67,68,69,70]⟩,.int .u8 b.toNat] w fun e w'=>e=.returned (.int .i64 (-1))∧w=w':=
 qb4 b _ Pl.hexB w rfl h
set_option maxHeartbeats 800000 in
theorem qda (left:Int) (b:UInt8) (w:World) (h0:-1000≤left) (h1:left≤1000) :
  Calls Tryz.prog 182 #[.int .i64 left,.int .u8 b.toNat] w fun e w'=>e=.returned (.int .i64 (Pl.qei left b))∧w=w':=by
 by_cases hl:0<left
 ·by_cases hb:Pl.qa0 b Pl.hexB=true
  ·have HV:Hid (Pl.qei left b=left - 1):=by show _=_; unfold Pl.qei; rw[if_pos ⟨hl,hb⟩]
   have hw:IntKind.i64.wrap (left - 1)=left - 1:=by rw[IntKind.wrap_i64]; omega
   go_enter Tryz.func182,Tryz.ntmps182
   go_wp2_with (go_at_call 130; refine(qtd b _ hb).mono ?_; rintro e w' ⟨x,hx,rfl,rfl⟩)
   go_ret
   exact⟨qa5 (by rw[HV.out]),rfl⟩
  ·have hb:=Bool.eq_false_iff.2 hb
   have HV:Hid (Pl.qei left b=0):=by show _=_; unfold Pl.qei; rw[if_neg (fun q=>by rw[hb]at q; exact absurd q.2 (by simp))]
   go_enter Tryz.func182,Tryz.ntmps182
   go_wp2_with (go_at_call 130; refine(qvz b _ hb).mono ?_; rintro e w' ⟨rfl,rfl⟩)
   go_ret
   exact⟨qa5 (by rw[HV.out]),rfl⟩
 ·have HV:Hid (Pl.qei left b=0):=by show _=_; unfold Pl.qei; rw[if_neg (fun q=>hl q.1)]
  have hl':decide (0<left)=false:=by rw[decide_eq_false_iff_not]; exact hl
  go_enter Tryz.func182,Tryz.ntmps182
  go_wp2_with fail
  go_ret
  exact⟨qa5 (by rw[HV.out]),rfl⟩
set_option maxHeartbeats 800000 in
theorem qff (b:UInt8) (w:World) :
  Calls Tryz.prog 183 #[.int .u8 b.toNat] w fun e w'=>e=.returned (.bool (Pl.qim b))∧w=w':=by
 unfold Pl.qim
 by_cases h1:Pl.qcm b=true
 ·rw[h1,Bool.true_or]
  go_enter Tryz.func183,Tryz.ntmps183
  go_wp2_with (go_at_call 132; refine(qbx b _).mono ?_; rintro e w' ⟨rfl,rfl⟩; rw[h1])
  go_ret
  exact⟨rfl,rfl⟩
 ·have h1:=Bool.eq_false_iff.2 h1
  rw[h1,Bool.false_or]
  by_cases h2:Pl.qde b=true
  ·rw[h2,Bool.true_or]
   go_enter Tryz.func183,Tryz.ntmps183
   go_wp2_with (first | (go_at_call 132; refine(qbx b _).mono ?_; rintro e w' ⟨rfl,rfl⟩; rw[h1]) | (go_at_call 102; refine(qcu b _).mono ?_; rintro e w' ⟨rfl,rfl⟩; rw[h2]))
   go_ret
   exact⟨rfl,rfl⟩
  ·have h2:=Bool.eq_false_iff.2 h2
   rw[h2,Bool.false_or]
   have h3:((b.toNat:Int)==35)=(b==35):=Pl.qj2 b 35 (by omega)
   go_enter Tryz.func183,Tryz.ntmps183
   go_wp2_with (first | (go_at_call 132; refine(qbx b _).mono ?_; rintro e w' ⟨rfl,rfl⟩; rw[h1]) | (go_at_call 102; refine(qcu b _).mono ?_; rintro e w' ⟨rfl,rfl⟩; rw[h2]))
   go_ret
   exact⟨rfl,rfl⟩
set_option maxHeartbeats 1600000 in
theorem qba (m:Nat) (w:World) :
  Calls Tryz.prog 154 #[.int .u8 m] w fun e w'=>e=.returned (.int .i64 (Pl.qaq m))∧w=w':=by
 by_cases hh:m=1∨m=19∨m=8∨m=9∨m=21∨m=22∨m=29∨m=30
 ·rcases hh with rfl | rfl | rfl | rfl | rfl | rfl | rfl | rfl
  all_goals
   go_enter Tryz.func154,Tryz.ntmps154
   go_wp2
   go_ret
   exact⟨rfl,rfl⟩
 ·have HV:Hid (Pl.qaq m=0):=by show _=_; unfold Pl.qaq; rw[if_neg (by omega),if_neg (by omega),if_neg (by omega)]
  have q1:((m:Int)==1)=false:=by rw[beq_eq_false_iff_ne]; omega
  have q2:((m:Int)==19)=false:=by rw[beq_eq_false_iff_ne]; omega
  have q3:((m:Int)==8)=false:=by rw[beq_eq_false_iff_ne]; omega
  have q4:((m:Int)==9)=false:=by rw[beq_eq_false_iff_ne]; omega
  have q5:((m:Int)==21)=false:=by rw[beq_eq_false_iff_ne]; omega
  have q6:((m:Int)==22)=false:=by rw[beq_eq_false_iff_ne]; omega
  have q7:((m:Int)==29)=false:=by rw[beq_eq_false_iff_ne]; omega
  have q8:((m:Int)==30)=false:=by rw[beq_eq_false_iff_ne]; omega
  clear hh
  go_enter Tryz.func154,Tryz.ntmps154
  go_wp2
  go_ret
  exact⟨qa5 (by rw[HV.out]),rfl⟩
theorem beqN (a b:Nat):((a:Int)==(b:Int))=(a==b):=by rw[Bool.eq_iff_iff]; simp only[beq_iff_eq,Int.natCast_inj]
set_option maxHeartbeats 1600000 in
theorem qbp (x:Pl.Sx) (w:World) :
  Calls Tryz.prog 153 #[qad x] w fun e w'=>e=.returned (.bool (Pl.qcr x.st.kind x.st.mode))∧w.alloc (.cells (qab x) 162)=w':=by
 unfold Pl.qcr qad qab bs
 by_cases h1:(x.st.kind==1)=true
 ·rw[h1,Bool.true_and]
  by_cases h2:x.st.mode=8
  ·have h2':((x.st.mode:Int)==8)=true:=by rw[h2]; rfl
   have HV:Hid ((x.st.mode==8 || x.st.mode==9)=true):=by show _=_; rw[h2]; rfl
   rw[HV.out]
   clear h2
   go_enter Tryz.func153,Tryz.ntmps153
   go_wp2_with fail
   go_ret
   exact⟨rfl,rfl⟩
  ·have h2':((x.st.mode:Int)==8)=false:=by rw[beq_eq_false_iff_ne]; omega
   have HV:Hid ((x.st.mode==8 || x.st.mode==9)=((x.st.mode:Int)==9)):=by
    show _=_
    rw[show ((9:Int))=((9:Nat):Int) from rfl,beqN,beq_eq_false_iff_ne.2 h2,Bool.false_or]
   rw[HV.out]
   clear h2
   go_enter Tryz.func153,Tryz.ntmps153
   go_wp2_with fail
   go_ret
   exact⟨rfl,rfl⟩
 ·have h1:=Bool.eq_false_iff.2 h1
  rw[h1,Bool.false_and]
  go_enter Tryz.func153,Tryz.ntmps153
  go_wp2_with fail
  go_ret
  exact⟨rfl,rfl⟩
set_option maxHeartbeats 1600000 in
theorem qqv (x:Pl.Sx) (w:World) :
  Calls Tryz.prog 111 #[qad x] w fun e w'=>e=.returned (.bool (x.st.mode==0))∧w.alloc (.cells (qab x) 162)=w':=by
 unfold qad qab bs
 by_cases h:x.st.mode=0
 ·have hb:(x.st.mode==0)=true:=beq_iff_eq.2 h
  rw[hb,h]
  clear hb
  go_enter Tryz.func111,Tryz.ntmps111
  go_wp2
  go_ret
  exact⟨rfl,rfl⟩
 ·have hb:(x.st.mode==0)=false:=beq_eq_false_iff_ne.2 h
  have hi:((x.st.mode:Int)==0)=false:=by rw[beq_eq_false_iff_ne]; omega
  rw[hb]
  clear hb
  go_enter Tryz.func111,Tryz.ntmps111
  go_wp2
  go_ret
  exact⟨rfl,rfl⟩
set_option maxHeartbeats 3200000 in
theorem qe4 (x:Pl.Sx) (w:World) :
  Calls Tryz.prog 155 #[qad x] w fun e w'=>e=.returned (.bool x.halfway)∧w.alloc (.cells (qab x) 162)=w':=by
 have HV:Hid (x.halfway=(x.ma.ref || (x.st.esc || (decide (0<x.ma.hex) || (decide (0<x.ma.pct) || decide ((0:Int)<(x.st.read:Int))))))):=by
  show _=_
  unfold Pl.Sx.halfway
  congr 4
  exact decide_eq_decide.2 (by omega)
 rw[HV.out]
 clear HV
 unfold qad qab bs
 generalize x.ma.ref=r
 generalize x.st.esc=z
 generalize x.ma.hex=h
 generalize x.ma.pct=p
 generalize (x.st.read:Int)=d
 cases r with
 | true=>
   go_enter Tryz.func155,Tryz.ntmps155
   go_wp2
   go_ret
   exact⟨rfl,rfl⟩
 | false=>
   cases z with
   | true=>
     go_enter Tryz.func155,Tryz.ntmps155
     go_wp2
     go_ret
     exact⟨rfl,rfl⟩
   | false=>
     by_cases c1:0<h
     ·rw[decide_eq_true c1]
      go_enter Tryz.func155,Tryz.ntmps155
      go_wp2
      go_ret
      exact⟨rfl,rfl⟩
     ·rw[decide_eq_false c1]
      have c1:h≤0:=by omega
      by_cases c2:0<p
      ·rw[decide_eq_true c2]
       go_enter Tryz.func155,Tryz.ntmps155
       go_wp2
       go_ret
       exact⟨rfl,rfl⟩
      ·rw[decide_eq_false c2]
       have c2:p≤0:=by omega
       by_cases c3:0<d
       ·rw[decide_eq_true c3]
        go_enter Tryz.func155,Tryz.ntmps155
        go_wp2
        go_ret
        exact⟨rfl,rfl⟩
       ·rw[decide_eq_false c3]
        have c3:d≤0:=by omega
        go_enter Tryz.func155,Tryz.ntmps155
        go_wp2
        go_ret
        exact⟨rfl,rfl⟩
theorem qeo {P:Program} {fn:Func} {R:Ending→World→Prop} {a:Act} {w:World} {t u:Tmp} (h:fn.results=#[.tmp t,.tmp u]) (hdf:a.defers=[]) (x y:Value) (hx:a.tmps.getD t undef=x) (hy:a.tmps.getD u undef=y) (hR:R (.returned (.tuple #[x,y])) w):bodyPost P fn R .ret a w:=by
 subst hx hy
 refine bodyPost_ret ?_ hdf hR
 simp[results,h]
set_option maxHeartbeats 3200000 in
theorem q6y (x:Pl.Sx) (w:World) (h0:Pl.qaq x.st.mode=0) :
  Calls Tryz.prog 108 #[qad x] w fun e w'=>e=.returned (.tuple #[.int .i64 x.hole.1,.int .i64 x.hole.2])∧Below w.heap.size w w':=by
 have hW:=fun w=>qba x.st.mode w
 have hH:=fun w=>qe4 x w
 have hI:=fun w=>qbp x w
 have HV:Hid (x.hole=(0,10)):=by
  show _=_
  unfold Pl.Sx.hole
  rw[if_pos h0]
 rw[HV.out]
 clear HV
 rw[h0]at hW
 clear h0
 unfold qad qab bs at hH hI ⊢
 have HW:=(show Hid _ from hW)
 have HH:=(show Hid _ from hH)
 have HI:=(show Hid _ from hI)
 clear hW hH hI
 go_enter Tryz.func108,Tryz.ntmps108
 go_wp2_with (first
  | (go_at_call 154; refine(HW.out _).mono ?_; rintro e w' ⟨rfl,rfl⟩)
  | (go_at_call 155; refine(HH.out _).mono ?_; rintro e w' ⟨rfl,rfl⟩)
  | (go_at_call 153; refine(HI.out _).mono ?_; rintro e w' ⟨rfl,rfl⟩))
 refine qeo Tryz.results108 rfl _ _ rfl rfl ?_
 exact⟨rfl,by repeat (first | exact Below.refl _ _ | refine Below.alloc ?_ (by simp<;>omega) _)⟩
set_option maxHeartbeats 3200000 in
theorem q6x (x:Pl.Sx) (w:World) (h0:¬ Pl.qaq x.st.mode=0) (h1:x.st.kind=2) :
  Calls Tryz.prog 108 #[qad x] w fun e w'=>e=.returned (.tuple #[.int .i64 x.hole.1,.int .i64 x.hole.2])∧Below w.heap.size w w':=by
 have hW:=fun w=>qba x.st.mode w
 have hH:=fun w=>qe4 x w
 have hI:=fun w=>qbp x w
 have HV:Hid (x.hole=(0,11)):=by
  show _=_
  unfold Pl.Sx.hole
  rw[if_neg h0,if_pos h1]
 rw[HV.out]
 clear HV
 have c0:((Pl.qaq x.st.mode:Int)==0)=false:=by rw[beq_eq_false_iff_ne]; omega
 unfold qad qab bs
 rw[h1]
 unfold qad qab bs at hH hI
 rw[h1]at hH hI
 clear h0 h1
 generalize (Pl.qaq x.st.mode:Int)=a at hW c0
 have HW:=(show Hid _ from hW)
 have HH:=(show Hid _ from hH)
 have HI:=(show Hid _ from hI)
 clear hW hH hI
 go_enter Tryz.func108,Tryz.ntmps108
 go_wp2_with (first
  | (go_at_call 154; refine(HW.out _).mono ?_; rintro e w' ⟨rfl,rfl⟩)
  | (go_at_call 155; refine(HH.out _).mono ?_; rintro e w' ⟨rfl,rfl⟩)
  | (go_at_call 153; refine(HI.out _).mono ?_; rintro e w' ⟨rfl,rfl⟩))
 refine qeo Tryz.results108 rfl _ _ rfl rfl ?_
 exact⟨rfl,by repeat (first | exact Below.refl _ _ | refine Below.alloc ?_ (by simp<;>omega) _)⟩
set_option maxHeartbeats 3200000 in
theorem q6w (x:Pl.Sx) (w:World) (h0:¬ Pl.qaq x.st.mode=0) (h1:¬ x.st.kind=2) (h2:x.halfway=true) :
  Calls Tryz.prog 108 #[qad x] w fun e w'=>e=.returned (.tuple #[.int .i64 x.hole.1,.int .i64 x.hole.2])∧Below w.heap.size w w':=by
 have hW:=fun w=>qba x.st.mode w
 have hH:=fun w=>qe4 x w
 have hI:=fun w=>qbp x w
 have HV:Hid (x.hole=(0,12)):=by
  show _=_
  unfold Pl.Sx.hole
  rw[if_neg h0,if_neg h1,if_pos h2]
 rw[HV.out]
 clear HV
 have c0:((Pl.qaq x.st.mode:Int)==0)=false:=by rw[beq_eq_false_iff_ne]; omega
 have c1:((x.st.kind:Int)==2)=false:=by rw[beq_eq_false_iff_ne]; exact h1
 rw[h2]at hH
 clear h0 h1 h2
 generalize (Pl.qaq x.st.mode:Int)=a at hW c0
 unfold qad qab bs at hH hI ⊢
 have HW:=(show Hid _ from hW)
 have HH:=(show Hid _ from hH)
 have HI:=(show Hid _ from hI)
 clear hW hH hI
 go_enter Tryz.func108,Tryz.ntmps108
 go_wp2_with (first
  | (go_at_call 154; refine(HW.out _).mono ?_; rintro e w' ⟨rfl,rfl⟩)
  | (go_at_call 155; refine(HH.out _).mono ?_; rintro e w' ⟨rfl,rfl⟩)
  | (go_at_call 153; refine(HI.out _).mono ?_; rintro e w' ⟨rfl,rfl⟩))
 refine qeo Tryz.results108 rfl _ _ rfl rfl ?_
 exact⟨rfl,by repeat (first | exact Below.refl _ _ | refine Below.alloc ?_ (by simp<;>omega) _)⟩
set_option maxHeartbeats 3200000 in
theorem q6v (x:Pl.Sx) (w:World) (h0:¬ Pl.qaq x.st.mode=0) (h1:¬ x.st.kind=2) (h2:¬ x.halfway=true) (h3:Pl.qcr x.st.kind x.st.mode=true) (h4:x.ma.far=0) :
  Calls Tryz.prog 108 #[qad x] w fun e w'=>e=.returned (.tuple #[.int .i64 x.hole.1,.int .i64 x.hole.2])∧Below w.heap.size w w':=by
 have hW:=fun w=>qba x.st.mode w
 have hH:=fun w=>qe4 x w
 have hI:=fun w=>qbp x w
 have HV:Hid (x.hole=(2,0)):=by
  show _=_
  unfold Pl.Sx.hole
  rw[if_neg h0,if_neg h1,if_neg h2,if_pos ⟨h3,h4⟩]
 rw[HV.out]
 clear HV
 have c0:((Pl.qaq x.st.mode:Int)==0)=false:=by rw[beq_eq_false_iff_ne]; omega
 have c1:((x.st.kind:Int)==2)=false:=by rw[beq_eq_false_iff_ne]; exact h1
 rw[Bool.eq_false_iff.2 h2]at hH
 rw[h3]at hI
 unfold qad qab bs at hH hI ⊢
 rw[h4]at hH hI ⊢
 clear h0 h1 h2 h3 h4
 generalize (Pl.qaq x.st.mode:Int)=a at hW c0
 have HW:=(show Hid _ from hW)
 have HH:=(show Hid _ from hH)
 have HI:=(show Hid _ from hI)
 clear hW hH hI
 go_enter Tryz.func108,Tryz.ntmps108
 go_wp2_with (first
  | (go_at_call 154; refine(HW.out _).mono ?_; rintro e w' ⟨rfl,rfl⟩)
  | (go_at_call 155; refine(HH.out _).mono ?_; rintro e w' ⟨rfl,rfl⟩)
  | (go_at_call 153; refine(HI.out _).mono ?_; rintro e w' ⟨rfl,rfl⟩))
 refine qeo Tryz.results108 rfl _ _ rfl rfl ?_
 exact⟨rfl,by repeat (first | exact Below.refl _ _ | refine Below.alloc ?_ (by simp<;>omega) _)⟩
set_option maxHeartbeats 3200000 in
theorem q6u (x:Pl.Sx) (w:World) (h0:¬ Pl.qaq x.st.mode=0) (h1:¬ x.st.kind=2) (h2:¬ x.halfway=true) (h3:Pl.qcr x.st.kind x.st.mode=true) (h4:¬ x.ma.far=0) :
  Calls Tryz.prog 108 #[qad x] w fun e w'=>e=.returned (.tuple #[.int .i64 x.hole.1,.int .i64 x.hole.2])∧Below w.heap.size w w':=by
 have hW:=fun w=>qba x.st.mode w
 have hH:=fun w=>qe4 x w
 have hI:=fun w=>qbp x w
 have HV:Hid (x.hole=(3,0)):=by
  show _=_
  unfold Pl.Sx.hole
  rw[if_neg h0,if_neg h1,if_neg h2,if_neg (fun q=>h4 q.2),if_pos h3]
 rw[HV.out]
 clear HV
 have c0:((Pl.qaq x.st.mode:Int)==0)=false:=by rw[beq_eq_false_iff_ne]; omega
 have c1:((x.st.kind:Int)==2)=false:=by rw[beq_eq_false_iff_ne]; exact h1
 rw[Bool.eq_false_iff.2 h2]at hH
 have c4:((x.ma.far:Int)==0)=false:=by rw[beq_eq_false_iff_ne]; exact h4
 rw[h3]at hI
 clear h0 h1 h2 h3 h4
 generalize (Pl.qaq x.st.mode:Int)=a at hW c0
 unfold qad qab bs at hH hI ⊢
 have HW:=(show Hid _ from hW)
 have HH:=(show Hid _ from hH)
 have HI:=(show Hid _ from hI)
 clear hW hH hI
 go_enter Tryz.func108,Tryz.ntmps108
 go_wp2_with (first
  | (go_at_call 154; refine(HW.out _).mono ?_; rintro e w' ⟨rfl,rfl⟩)
  | (go_at_call 155; refine(HH.out _).mono ?_; rintro e w' ⟨rfl,rfl⟩)
  | (go_at_call 153; refine(HI.out _).mono ?_; rintro e w' ⟨rfl,rfl⟩))
 refine qeo Tryz.results108 rfl _ _ rfl rfl ?_
 exact⟨rfl,by repeat (first | exact Below.refl _ _ | refine Below.alloc ?_ (by simp<;>omega) _)⟩
set_option maxHeartbeats 3200000 in
theorem q6t (x:Pl.Sx) (w:World) (h0:¬ Pl.qaq x.st.mode=0) (h1:¬ x.st.kind=2) (h2:¬ x.halfway=true) (h3:¬ Pl.qcr x.st.kind x.st.mode=true) :
  Calls Tryz.prog 108 #[qad x] w fun e w'=>e=.returned (.tuple #[.int .i64 x.hole.1,.int .i64 x.hole.2])∧Below w.heap.size w w':=by
 have hW:=fun w=>qba x.st.mode w
 have hH:=fun w=>qe4 x w
 have hI:=fun w=>qbp x w
 have HV:Hid (x.hole=(Pl.qaq x.st.mode,0)):=by
  show _=_
  unfold Pl.Sx.hole
  rw[if_neg h0,if_neg h1,if_neg h2,if_neg (fun q=>h3 q.1),if_neg h3]
 rw[HV.out]
 clear HV
 have c0:((Pl.qaq x.st.mode:Int)==0)=false:=by rw[beq_eq_false_iff_ne]; omega
 have c1:((x.st.kind:Int)==2)=false:=by rw[beq_eq_false_iff_ne]; exact h1
 rw[Bool.eq_false_iff.2 h2]at hH
 rw[Bool.eq_false_iff.2 h3]at hI
 clear h0 h1 h2 h3
 simp only
 generalize (Pl.qaq x.st.mode:Int)=a at hW c0 ⊢
 unfold qad qab bs at hH hI ⊢
 have HW:=(show Hid _ from hW)
 have HH:=(show Hid _ from hH)
 have HI:=(show Hid _ from hI)
 clear hW hH hI
 go_enter Tryz.func108,Tryz.ntmps108
 go_wp2_with (first
  | (go_at_call 154; refine(HW.out _).mono ?_; rintro e w' ⟨rfl,rfl⟩)
  | (go_at_call 155; refine(HH.out _).mono ?_; rintro e w' ⟨rfl,rfl⟩)
  | (go_at_call 153; refine(HI.out _).mono ?_; rintro e w' ⟨rfl,rfl⟩))
 refine qeo Tryz.results108 rfl _ _ rfl rfl ?_
 exact⟨rfl,by repeat (first | exact Below.refl _ _ | refine Below.alloc ?_ (by simp<;>omega) _)⟩
theorem q1m (x:Pl.Sx) (w:World) :
  Calls Tryz.prog 108 #[qad x] w fun e w'=>e=.returned (.tuple #[.int .i64 x.hole.1,.int .i64 x.hole.2])∧Below w.heap.size w w':=by
 by_cases h0:Pl.qaq x.st.mode=0
 ·exact q6y x w h0
 by_cases h1:x.st.kind=2
 ·exact q6x x w h0 h1
 by_cases h2:x.halfway=true
 ·exact q6w x w h0 h1 h2
 by_cases h3:Pl.qcr x.st.kind x.st.mode=true
 ·by_cases h4:x.ma.far=0
  ·exact q6v x w h0 h1 h2 h3 h4
  ·exact q6u x w h0 h1 h2 h3 h4
 ·exact q6t x w h0 h1 h2 h3
set_option maxRecDepth 100000 in
set_option maxHeartbeats 3200000 in
theorem qrs (x:Pl.Sx) (w:World) (h3:¬ Pl.qcr x.st.kind x.st.mode=true) :
  Calls Tryz.prog 109 #[qad x] w fun e w'=>e=.returned (qad x.behindHole)∧Below w.heap.size w w':=by
 have hI:=fun w=>qbp x w
 have HV:Hid (x.behindHole=x):=by
  show _=_
  unfold Pl.Sx.behindHole
  rw[if_neg (fun q=>h3 q.1)]
 rw[HV.out]
 clear HV
 rw[Bool.eq_false_iff.2 h3]at hI
 unfold qad qab bs at hI ⊢
 have HI:=(show Hid _ from hI)
 clear hI h3
 go_enter Tryz.func109,Tryz.ntmps109
 go_wp2_with (go_at_call 153; refine(HI.out _).mono ?_; rintro e w' ⟨rfl,rfl⟩)
 refine bodyPost_ret (qbn Tryz.results109 _ _ (w.heap.size+1) _ _ rfl (qaa ((heap_alloc_old _ _ (by simp)).trans (qas (w.alloc _) _ _ (by simp)))) Tryz.underlying162 rfl (by kernel_rfl)) rfl ?_
 exact⟨rfl,by repeat (first | exact Below.refl _ _ | refine Below.alloc ?_ (by simp<;>omega) _)⟩
set_option maxRecDepth 100000 in
set_option maxHeartbeats 3200000 in
theorem qrr (x:Pl.Sx) (w:World) (h3:Pl.qcr x.st.kind x.st.mode=true) (h4:¬ x.ma.far<2) :
  Calls Tryz.prog 109 #[qad x] w fun e w'=>e=.returned (qad x.behindHole)∧Below w.heap.size w w':=by
 have hI:=fun w=>qbp x w
 have HV:Hid (x.behindHole=x):=by
  show _=_
  unfold Pl.Sx.behindHole
  rw[if_neg (fun q=>h4 q.2)]
 rw[HV.out]
 clear HV
 rw[h3]at hI
 unfold qad qab bs at hI ⊢
 have HI:=(show Hid _ from hI)
 have c4:2≤x.ma.far:=by omega
 clear hI h3 h4
 go_enter Tryz.func109,Tryz.ntmps109
 go_wp2_with (go_at_call 153; refine(HI.out _).mono ?_; rintro e w' ⟨rfl,rfl⟩)
 refine bodyPost_ret (qbn Tryz.results109 _ _ (w.heap.size+1) _ _ rfl (qaa ((heap_alloc_old _ _ (by simp)).trans (qas (w.alloc _) _ _ (by simp)))) Tryz.underlying162 rfl (by kernel_rfl)) rfl ?_
 exact⟨rfl,by repeat (first | exact Below.refl _ _ | refine Below.alloc ?_ (by simp<;>omega) _)⟩
set_option maxRecDepth 100000 in
set_option maxHeartbeats 3200000 in
theorem qrq (x:Pl.Sx) (w:World) (h3:Pl.qcr x.st.kind x.st.mode=true) (h4:x.ma.far<2) :
  Calls Tryz.prog 109 #[qad x] w fun e w'=>e=.returned (qad x.behindHole)∧Below w.heap.size w w':=by
 have hI:=fun w=>qbp x w
 have HV:Hid (x.behindHole=⟨x.st,⟨x.ma.ref,x.ma.hex,x.ma.pct,2⟩⟩):=by
  show _=_
  unfold Pl.Sx.behindHole
  rw[if_pos ⟨h3,h4⟩]
 rw[HV.out]
 clear HV
 rw[h3]at hI
 unfold qad qab bs at hI ⊢
 have HI:=(show Hid _ from hI)
 clear hI h3
 go_enter Tryz.func109,Tryz.ntmps109
 go_wp2_with (go_at_call 153; refine(HI.out _).mono ?_; rintro e w' ⟨rfl,rfl⟩)
 refine bodyPost_ret (qbn Tryz.results109 _ _ (w.heap.size+1) _ _ rfl (qaa ((heap_alloc_old _ _ (by simp)).trans (qas (w.alloc _) _ _ (by simp)))) Tryz.underlying162 rfl (by kernel_rfl)) rfl ?_
 exact⟨rfl,by repeat (first | exact Below.refl _ _ | refine Below.alloc ?_ (by simp<;>omega) _)⟩
theorem qit (x:Pl.Sx) (w:World) :
  Calls Tryz.prog 109 #[qad x] w fun e w'=>e=.returned (qad x.behindHole)∧Below w.heap.size w w':=by
 by_cases h3:Pl.qcr x.st.kind x.st.mode=true
 ·by_cases h4:x.ma.far<2
  ·exact qrq x w h3 h4
  ·exact qrr x w h3 h4
 ·exact qrs x w h3
def TabB (B:Nat) (w:World):Prop:=PTabs w∧∃ w0,PTabs w0∧w0.heap.size≤B
theorem TabB.kept {B:Nat} {w w':World} (h:TabB B w) (hb:Below B w w'):TabB B w':=by
 obtain⟨h1,w0,h2,h3⟩:=h
 exact⟨h1.kept' h2 (hb.mono h3),w0,h2,h3⟩
def qgn:Prop:=∀(x:Pl.Sx) (b:UInt8) (w:World),PTabs w→Pl.SxOk x →
    Calls Tryz.prog 63 #[qad x,.int .u8 b.toNat] w fun e w'=>e=.returned (qad (x.behind b))∧Below w.heap.size w w'
def BehC (S:List Pl.Src) (k:Nat):Prop:=∀(w:World) (B:Nat) (F:Fix) (vv:Value) (s:Pl.Sr) (n:List UInt8) (x:Pl.Sx),SeAt w B F S vv s→Pl.EndsOk S.length s.ends→257≤s.ends.length+k→Pl.SxFit x→n.length≤2000→TabB B w →
    Calls Tryz.prog 156 #[.pointer (some ⟨F.g,0,none⟩),.string ⟨n.toArray⟩,qad x] w fun e w'=>e=.returned (qad (Pl.behV S k s n x).2)∧SeAt w' B F S vv (Pl.behV S k s n x).1∧Cue B F w w'
def qak (e:Pl.En):Array Value:=#[.int .i64 e.1,.int .u8 (e.2.st.mode:Int),bs e.2.st.name,bs e.2.st.elem,.int .i64 e.2.st.kind,.int .i64 (e.2.st.read:Int),.bool e.2.ma.ref,.bool e.2.st.esc,.int .i64 e.2.ma.hex,.int .i64 e.2.ma.pct,.int .i64 e.2.ma.far]
theorem qbh (e:Pl.En):qfh e=.agg (qak e):=rfl
def StIn (w:World) (G:Nat) (x:Pl.Sx):Prop:=w.heap[G]?=some (.cells (qab x) 162 (0,0))
theorem StIn.at' {w:World} {G:Nat} {x:Pl.Sx} (h:StIn w G x):SxAt w G x:=by
 have c:=qaa h
 exact⟨c 0 _ rfl,c 1 _ rfl,c 2 _ rfl,c 3 _ rfl,c 4 _ rfl,c 5 _ rfl,c 6 _ rfl,c 7 _ rfl,c 8 _ rfl,c 9 _ rfl⟩
theorem StIn.slot {w:World} {G:Nat} {x:Pl.Sx} (h:StIn w G x):qb7 10 w G:=⟨_,_,h,rfl⟩
theorem StIn.lt {w:World} {G:Nat} {x:Pl.Sx} (h:StIn w G x):G<w.heap.size:=(Array.getElem?_eq_some_iff.1 h).1
theorem StIn.below {w w':World} {G:Nat} {x:Pl.Sx} (h:StIn w G x) (hb:Below w.heap.size w w'):StIn w' G x:=(hb.block _ h.lt).trans h
theorem qgq {g:Nat} {t:TypeId}:∀(l:List Value) (w:World) (k:Nat) (pre old:List Value),w.heap[g]?=some (.cells (pre++old).toArray t (0,0))→pre.length=k→old.length=l.length→(qf8 w g k l).heap[g]?=some (.cells (pre++l).toArray t (0,0))
 | [],w,k,pre,old,h,_,ho=>by
   have:old=[]:=List.length_eq_zero_iff.1 ho
   subst this
   exact h
 | v::l,w,k,pre,old,h,hk,ho=>by
   cases old with
   | nil=>simp at ho
   | cons u old=>
     show (qf8 (w.setCell ⟨g,k,none⟩ v) g (k+1) l).heap[g]?=_
     have h1:=heap_setCell_same w g k _ t v h
     have e:(pre++u::old).toArray.setIfInBounds k v=((pre++[v])++old).toArray:=by
      rw[List.setIfInBounds_toArray,List.set_append_right _ _ (by omega),hk,Nat.sub_self]
      simp
     rw[e]at h1
     have:=qgq l _ (k+1) (pre++[v]) old h1 (by simp[hk]) (by simpa using ho)
     rw[this]
     simp
theorem StIn.set {w:World} {G:Nat} {x:Pl.Sx} (h:StIn w G x) (y:Pl.Sx):StIn (qcn w G (.int .u8 (y.st.mode:Int)) (.string ⟨y.st.name.toArray⟩) (.string ⟨y.st.elem.toArray⟩) (.int .i64 y.st.kind) (.int .i64 (y.st.read:Int)) (.bool y.ma.ref) (.bool y.st.esc) (.int .i64 y.ma.hex) (.int .i64 y.ma.pct) (.int .i64 y.ma.far)) G y:=by
 unfold StIn at h ⊢
 rw[qma]
 exact qgq (t:=162) _ w 0 [] (qab x).toList (by simpa using h) rfl rfl
theorem qf9 {w:World} {G k:Nat} (h:k≠G) (v0 v1 v2 v3 v4 v5 v6 v7 v8 v9:Value):(qcn w G v0 v1 v2 v3 v4 v5 v6 v7 v8 v9).heap[k]?=w.heap[k]?:=by
 have e:∀(w:World) (j:Nat) (v:Value),(w.setCell ⟨G,j,none⟩ v).heap[k]?=w.heap[k]?:=fun w j v=>Below.heap_setCell _ _ _ _ h
 unfold qcn
 rw[e,e,e,e,e,e,e,e,e,e]
theorem qb0:(162:TypeId)≠178:=by decide
theorem qmo:(162:TypeId)≠173:=by decide
theorem qqe:(162:TypeId)≠229:=by decide
theorem SeAt.far {w w':World} {B:Nat} {F:Fix} {S:List Pl.Src} {vv:Value} {s:Pl.Sr} (h:SeAt w B F S vv s) {G:Nat} {x:Pl.Sx} (hG:StIn w G x) (hk:∀ k,k≠G→w'.heap[k]?=w.heap[k]?):SeAt w' B F S vv s:=by
 obtain⟨cs',fz',hc⟩:=h.src.blk
 refine⟨(hk _ (qaf h.blk hG qb0.symm)).trans h.blk,h.src.kept (hk _ (qaf hc hG qmo.symm)) (fun i s' q hs hv=>?_),h.places.heap (hk _ (qai hG h.places).symm),h.ends.heap (hk _ (qai hG h.ends).symm),h.le,h.apart⟩
 obtain⟨cur,hc'⟩:=qae (h.src.row i s' hs) q hv
 exact hk q (qaf hc' hG qqe.symm)
structure Wki (w wr:World) (B:Nat) (F:Fix) (S:List Pl.Src) (vv:Value) (s:Pl.Sr) (G R:Nat) (x:Pl.Sx):Prop where
 se:SeAt wr B F S vv s
 now:StIn wr G x
 res:StIn wr R Pl.Sx.none
 ne:G≠R
 old:w.heap.size≤G∧w.heap.size≤R∧B≤w.heap.size
 cue:Cue B F w wr
 tabs:TabB B wr
theorem Wki.below {w wr w':World} {B:Nat} {F:Fix} {S:List Pl.Src} {vv:Value} {s:Pl.Sr} {G R:Nat} {x:Pl.Sx} (h:Wki w wr B F S vv s G R x) (hb:Below wr.heap.size wr w'):Wki w w' B F S vv s G R x:=
 have hB:B≤wr.heap.size:=Nat.le_trans h.old.2.2 h.cue.below.size
 ⟨h.se.below hb,h.now.below hb,h.res.below hb,h.ne,h.old,h.cue.trans (Cue.of_below hb hB),h.tabs.kept (hb.mono hB)⟩
theorem Wki.alloc {w wr:World} {B:Nat} {F:Fix} {S:List Pl.Src} {vv:Value} {s:Pl.Sr} {G R:Nat} {x:Pl.Sx} (h:Wki w wr B F S vv s G R x) (o:Obj):Wki w (wr.alloc o) B F S vv s G R x:=h.below ((Below.refl _ _).alloc (Nat.le_refl _) o)
theorem Wki.drewN {w wr:World} {B:Nat} {F:Fix} {S:List Pl.Src} {vv:Value} {s:Pl.Sr} {G R:Nat} {x:Pl.Sx} (h:Wki w wr B F S vv s G R x) (n:Nat):Wki w (wr.drewN n) B F S vv s G R x:=h.below (qa3 (Below.refl _ _) n)
theorem Wki.set {w wr:World} {B:Nat} {F:Fix} {S:List Pl.Src} {vv:Value} {s:Pl.Sr} {G R:Nat} {x:Pl.Sx} (h:Wki w wr B F S vv s G R x) (y:Pl.Sx):Wki w (qcn wr G (.int .u8 (y.st.mode:Int)) (.string ⟨y.st.name.toArray⟩) (.string ⟨y.st.elem.toArray⟩) (.int .i64 y.st.kind) (.int .i64 (y.st.read:Int)) (.bool y.ma.ref) (.bool y.st.esc) (.int .i64 y.ma.hex) (.int .i64 y.ma.pct) (.int .i64 y.ma.far)) B F S vv s G R y:=by
 have hfar:=fun k (hk:k≠G)=>qf9 (w:=wr) hk (.int .u8 (y.st.mode:Int)) (.string ⟨y.st.name.toArray⟩) (.string ⟨y.st.elem.toArray⟩) (.int .i64 y.st.kind) (.int .i64 (y.st.read:Int)) (.bool y.ma.ref) (.bool y.st.esc) (.int .i64 y.ma.hex) (.int .i64 y.ma.pct) (.int .i64 y.ma.far)
 have hbel:Below G wr (qcn wr G (.int .u8 (y.st.mode:Int)) (.string ⟨y.st.name.toArray⟩) (.string ⟨y.st.elem.toArray⟩) (.int .i64 y.st.kind) (.int .i64 (y.st.read:Int)) (.bool y.ma.ref) (.bool y.st.esc) (.int .i64 y.ma.hex) (.int .i64 y.ma.pct) (.int .i64 y.ma.far)):=qaw (Below.refl _ _) (Nat.le_refl _) _ _ _ _ _ _ _ _ _ _
 have hs:=h.now.set y
 generalize qcn wr G _ _ _ _ _ _ _ _ _ _=w' at hfar hbel hs ⊢
 refine⟨h.se.far h.now hfar,hs,(hfar _ h.ne.symm).trans h.res,h.ne,h.old,⟨h.cue.below.trans (hbel.mono (Nat.le_trans h.old.2.2 h.old.1)),fun k hk h1 h2=>(hfar k (by have:=h.old.1; omega)).trans (h.cue.keep k hk h1 h2)⟩,h.tabs.kept (hbel.mono (Nat.le_trans h.old.2.2 h.old.1))⟩
theorem Wki.turn {w wr w':World} {B:Nat} {F:Fix} {S:List Pl.Src} {vv:Value} {s s':Pl.Sr} {G R:Nat} {x:Pl.Sx} (h:Wki w wr B F S vv s G R x) (hs:SeAt w' B F S vv s') (hc:Cue B F wr w'):Wki w w' B F S vv s' G R x:=by
 have h1:=hc.keep G h.now.lt (fun e=>qaf h.se.blk h.now qb0.symm e.symm) (qai h.now h.se.ends)
 have h2:=hc.keep R h.res.lt (fun e=>qaf h.se.blk h.res qb0.symm e.symm) (qai h.res h.se.ends)
 exact⟨hs,h1.trans h.now,h2.trans h.res,h.ne,h.old,h.cue.trans hc,h.tabs.kept hc.below⟩
theorem SeAt.drew {w:World} {B:Nat} {F:Fix} {S:List Pl.Src} {vv:Value} {s:Pl.Sr} (h:SeAt w B F S vv s):SeAt w.drew B F S vv s:=h.drewN 1
theorem qc6:qab Pl.Sx.none=#[.int .u8 0,.string ⟨#[]⟩,.string ⟨#[]⟩,.int .i64 0,.int .i64 0,.bool false,.bool false,.int .i64 0,.int .i64 0,.int .i64 0]:=rfl
theorem qb1:(180:TypeId)≠178:=by decide
theorem qgz:(180:TypeId)≠162:=by decide
structure Bhi (w wr:World) (B:Nat) (F:Fix) (S:List Pl.Src) (vv:Value) (s:Pl.Sr) (E R:Nat) (e:Pl.En) (y:Pl.Sx):Prop where
 se:SeAt wr B F S vv s
 ent:wr.heap[E]?=some (.cells (qak e) 180 (0,0))
 res:StIn wr R y
 old:w.heap.size≤R∧B≤w.heap.size
 cue:Cue B F w wr
 tabs:TabB B wr
theorem Bhi.below {w wr w':World} {B:Nat} {F:Fix} {S:List Pl.Src} {vv:Value} {s:Pl.Sr} {E R:Nat} {e:Pl.En} {y:Pl.Sx} (h:Bhi w wr B F S vv s E R e y) (hb:Below wr.heap.size wr w'):Bhi w w' B F S vv s E R e y:=
 have hB:B≤wr.heap.size:=Nat.le_trans h.old.2 h.cue.below.size
 ⟨h.se.below hb,(hb.block _ (Array.getElem?_eq_some_iff.1 h.ent).1).trans h.ent,h.res.below hb,h.old,h.cue.trans (Cue.of_below hb hB),h.tabs.kept (hb.mono hB)⟩
theorem Bhi.alloc {w wr:World} {B:Nat} {F:Fix} {S:List Pl.Src} {vv:Value} {s:Pl.Sr} {E R:Nat} {e:Pl.En} {y:Pl.Sx} (h:Bhi w wr B F S vv s E R e y) (o:Obj):Bhi w (wr.alloc o) B F S vv s E R e y:=h.below ((Below.refl _ _).alloc (Nat.le_refl _) o)
theorem Bhi.drew {w wr:World} {B:Nat} {F:Fix} {S:List Pl.Src} {vv:Value} {s:Pl.Sr} {E R:Nat} {e:Pl.En} {y:Pl.Sx} (h:Bhi w wr B F S vv s E R e y):Bhi w wr.drew B F S vv s E R e y:=h.below (Below.refl _ _).drew
theorem Bhi.turn {w wr w':World} {B:Nat} {F:Fix} {S:List Pl.Src} {vv:Value} {s s':Pl.Sr} {E R:Nat} {e:Pl.En} {y:Pl.Sx} (h:Bhi w wr B F S vv s E R e y) (hs:SeAt w' B F S vv s') (hc:Cue B F wr w'):Bhi w w' B F S vv s' E R e y:=by
 have h1:=hc.keep E (Array.getElem?_eq_some_iff.1 h.ent).1 (fun q=>qaf h.se.blk h.ent qb1.symm q.symm) (qai h.ent h.se.ends)
 have h2:=hc.keep R h.res.lt (fun q=>qaf h.se.blk h.res qb0.symm q.symm) (qai h.res h.se.ends)
 exact⟨hs,h1.trans h.ent,h2.trans h.res,h.old,h.cue.trans hc,h.tabs.kept hc.below⟩
theorem Bhi.set {w wr:World} {B:Nat} {F:Fix} {S:List Pl.Src} {vv:Value} {s:Pl.Sr} {E R:Nat} {e:Pl.En} {x:Pl.Sx} (h:Bhi w wr B F S vv s E R e x) (y:Pl.Sx):Bhi w (qcn wr R (.int .u8 (y.st.mode:Int)) (.string ⟨y.st.name.toArray⟩) (.string ⟨y.st.elem.toArray⟩) (.int .i64 y.st.kind) (.int .i64 (y.st.read:Int)) (.bool y.ma.ref) (.bool y.st.esc) (.int .i64 y.ma.hex) (.int .i64 y.ma.pct) (.int .i64 y.ma.far)) B F S vv s E R e y:=by
 have hfar:=fun k (hk:k≠R)=>qf9 (w:=wr) hk (.int .u8 (y.st.mode:Int)) (.string ⟨y.st.name.toArray⟩) (.string ⟨y.st.elem.toArray⟩) (.int .i64 y.st.kind) (.int .i64 (y.st.read:Int)) (.bool y.ma.ref) (.bool y.st.esc) (.int .i64 y.ma.hex) (.int .i64 y.ma.pct) (.int .i64 y.ma.far)
 have hbel:Below R wr (qcn wr R (.int .u8 (y.st.mode:Int)) (.string ⟨y.st.name.toArray⟩) (.string ⟨y.st.elem.toArray⟩) (.int .i64 y.st.kind) (.int .i64 (y.st.read:Int)) (.bool y.ma.ref) (.bool y.st.esc) (.int .i64 y.ma.hex) (.int .i64 y.ma.pct) (.int .i64 y.ma.far)):=qaw (Below.refl _ _) (Nat.le_refl _) _ _ _ _ _ _ _ _ _ _
 have hs:=h.res.set y
 generalize qcn wr R _ _ _ _ _ _ _ _ _ _=w' at hfar hbel hs ⊢
 exact⟨h.se.far h.res hfar,(hfar _ (qaf h.ent h.res qgz)).trans h.ent,hs,h.old,⟨h.cue.below.trans (hbel.mono (Nat.le_trans h.old.2 h.old.1)),fun k hk h1 h2=>(hfar k (by have:=h.old.1; omega)).trans (h.cue.keep k hk h1 h2)⟩,h.tabs.kept (hbel.mono (Nat.le_trans h.old.2 h.old.1))⟩
theorem Bhi.post {w wr:World} {B:Nat} {F:Fix} {S:List Pl.Src} {vv:Value} {s:Pl.Sr} {E R:Nat} {e:Pl.En} {y:Pl.Sx} (h:Bhi w wr B F S vv s E R e y) {a:Act} (hp:a.tmps.getD 6 undef=.pointer (some ⟨R,0,none⟩)) (hd:a.defers=[]) :
  bodyPost Tryz.prog Tryz.f156 (fun ed w'=>ed=.returned (qad y)∧SeAt w' B F S vv s∧Cue B F w w') .ret a wr:=
 bodyPost_ret (qbn Tryz.results156 _ _ R _ _ hp (qaa h.res) Tryz.underlying162 rfl (by kernel_rfl)) hd ⟨rfl,h.se,h.cue⟩
theorem qca {w:World} {E:Nat} {e:Pl.En} (h:w.heap[E]?=some (.cells (qak e) 180 (0,0))):∀(j:Nat) (v:Value),(qak e).toList[j]?=some v→w.cell? ⟨E,j,none⟩=some v:=fun j v hv=>qaa h j v hv
set_option maxRecDepth 100000 in
set_option maxHeartbeats 6400000 in
theorem qrp (S:List Pl.Src) (hS:SrcsOk S) (w:World) (B:Nat) (F:Fix) (vv:Value) (s:Pl.Sr) (n:List UInt8) (x:Pl.Sx) (h:SeAt w B F S vv s) (hn:n.length≤2000) (hB:B≤w.heap.size) (h0:Pl.qag S n=0) :
  Calls Tryz.prog 156 #[.pointer (some ⟨F.g,0,none⟩),.string ⟨n.toArray⟩,qad x] w fun ed w'=>ed=.returned (qad x)∧SeAt w' B F S vv s∧Cue B F w w':=by
 have b1:∀ o o',((w.alloc o).alloc o').cell? ⟨F.g,1,none⟩=some (.map (some F.bp)):=fun o o'=>((h.alloc o).alloc o').cell 1 _ rfl
 have b2:∀ o o' o'',(((w.alloc o).alloc o').alloc o'').cell? ⟨F.g,1,none⟩=some (.map (some F.bp)):=fun o o' o''=>(((h.alloc o).alloc o').alloc o'').cell 1 _ rfl
 have l1:=fun o o'=>((h.alloc o).alloc o').drew.place hS n (by omega)
 have l2:=fun o o' o''=>(((h.alloc o).alloc o').alloc o'').drew.place hS n (by omega)
 rw[h0]at l1 l2
 generalize (⟨n.toArray⟩:ByteArray)=N at l1 l2 ⊢
 unfold qad qab bs
 have HS:=(show Hid _ from h)
 clear h
 go_enter Tryz.func156,Tryz.ntmps156
 go_wp2_with fail
 go_region
 go_wp2_with fail
 refine bodyPost_ret (qbn Tryz.results156 _ _ (w.heap.size+1) _ _ rfl (qaa ((heap_alloc_old _ _ (by simp)).trans (qas (w.alloc _) _ _ (by simp)))) Tryz.underlying162 rfl (by kernel_rfl)) rfl ⟨rfl,(((HS.out.alloc _).alloc _).alloc _).drew,Cue.of_below ((((Below.refl _ _).alloc (Nat.le_refl _) _).alloc (by simp) _).alloc (by simp; omega) _).drew hB⟩
theorem qis {w:World} {B:Nat} {F:Fix} {S:List Pl.Src} {vv:Value} {s:Pl.Sr} {x:Pl.Sx} (h:SeAt w B F S vv s) (hB:B≤w.heap.size) (ht:TabB B w) (i:Nat) :
  Bhi w (((w.alloc (.cells (qab x) 162)).alloc (.cells (qab Pl.Sx.none) 162)).alloc (.cells (qak (i,x)) 180)).drew B F S vv s (w.heap.size+1+1) (w.heap.size+1) (i,x) Pl.Sx.none:=by
 have hb:=((((Below.refl w.heap.size w).alloc (Nat.le_refl _) (.cells (qab x) 162)).alloc (by simp) (.cells (qab Pl.Sx.none) 162)).alloc (by simp; omega) (.cells (qak (i,x)) 180)).drew
 exact⟨(((h.alloc _).alloc _).alloc _).drew,qas (World.alloc (w.alloc _) _) _ _ (by simp),(heap_alloc_old _ _ (by simp)).trans (qas (w.alloc _) _ _ (by simp)),⟨by omega,hB⟩,Cue.of_below hb hB,ht.kept (hb.mono hB)⟩
set_option maxRecDepth 100000 in
set_option maxHeartbeats 6400000 in
theorem qt9 (S:List Pl.Src) (hS:SrcsOk S) (w:World) (B:Nat) (F:Fix) (vv:Value) (s:Pl.Sr) (n:List UInt8) (x:Pl.Sx) (h:SeAt w B F S vv s) (ho:Pl.EndsOk S.length s.ends) (hx:Pl.SxFit x) (hn:n.length≤2000) (hB:B≤w.heap.size) (ht:TabB B w) (h0:Pl.qag S n≠0) (y:Pl.Sx) (hy:Pl.qa7 s.ends (Pl.qag S n,x)=some y) :
  Calls Tryz.prog 156 #[.pointer (some ⟨F.g,0,none⟩),.string ⟨n.toArray⟩,qad x] w fun ed w'=>ed=.returned (qad y)∧SeAt w' B F S vv s∧Cue B F w w':=by
 have b1:∀ o o',((w.alloc o).alloc o').cell? ⟨F.g,1,none⟩=some (.map (some F.bp)):=fun o o'=>((h.alloc o).alloc o').cell 1 _ rfl
 have b2:∀ o o' o'',(((w.alloc o).alloc o').alloc o'').cell? ⟨F.g,1,none⟩=some (.map (some F.bp)):=fun o o' o''=>(((h.alloc o).alloc o').alloc o'').cell 1 _ rfl
 have l1:=fun o o'=>((h.alloc o).alloc o').drew.place hS n (by omega)
 have l2:=fun o o' o''=>(((h.alloc o).alloc o').alloc o'').drew.place hS n (by omega)
 have hi6:Pl.qag S n≤6:=by have:=Pl.qen S n h0; have:=hS.few; omega
 have HI:=(show Hid _ from qis (x:=x) h hB ht (Pl.qag S n))
 generalize hi:Pl.qag S n=i at *
 have i0:((i:Int)==0)=false:=by rw[beq_eq_false_iff_ne]; omega
 generalize (⟨n.toArray⟩:ByteArray)=N at l1 l2 ⊢
 rw[qc6]at HI
 unfold qak qab bs at HI
 unfold qad qab bs
 clear h
 have HY:=(show Hid _ from hy)
 clear hy
 go_enter Tryz.func156,Tryz.ntmps156
 go_wp2_with fail
 go_region
 go_wp2_with fail
 clear b1 b2 l1 l2
 generalize World.drew _=w3 at HI ⊢
 have l3:=HI.out.se.drew.look hS ho (i,x) hx hi6 true
 have l4:=fun o=>(HI.out.se.alloc o).drew.look hS ho (i,x) hx hi6 true
 rw[HY.out]at l3 l4
 have b1:w3.cell? ⟨F.g,2,none⟩=some (.map (some F.be)):=HI.out.se.cell 2 _ rfl
 have b2:∀ o,(w3.alloc o).cell? ⟨F.g,2,none⟩=some (.map (some F.be)):=fun o=>(HI.out.se.alloc o).cell 2 _ rfl
 have he:=qca HI.out.ent
 have hf:=fun o=>qca (HI.out.alloc o).ent
 unfold qak bs at he hf
 have hr:=fun o=>(HI.out.alloc o).res
 have r0:=fun o=>(hr o).at'.mode
 have r1:=fun o=>(hr o).at'.name
 have r2:=fun o=>(hr o).at'.elem
 have r3:=fun o=>(hr o).at'.kind
 have r4:=fun o=>(hr o).at'.read
 have r5:=fun o=>(hr o).at'.ref
 have r6:=fun o=>(hr o).at'.esc
 have r7:=fun o=>(hr o).at'.hex
 have r8:=fun o=>(hr o).at'.pct
 have r9:=fun o=>(hr o).at'.far
 have f0:=fun o=>(hr o).slot.thaw 0
 have f1:=fun o=>(hr o).slot.thaw 1
 have f2:=fun o=>(hr o).slot.thaw 2
 have f3:=fun o=>(hr o).slot.thaw 3
 have f4:=fun o=>(hr o).slot.thaw 4
 have f5:=fun o=>(hr o).slot.thaw 5
 have f6:=fun o=>(hr o).slot.thaw 6
 have f7:=fun o=>(hr o).slot.thaw 7
 have f8:=fun o=>(hr o).slot.thaw 8
 have f9:=fun o=>(hr o).slot.thaw 9
 have m0:=he 0 _ rfl
 have m1:=he 1 _ rfl
 have m2:=he 2 _ rfl
 have m3:=he 3 _ rfl
 have m4:=he 4 _ rfl
 have m5:=he 5 _ rfl
 have m6:=he 6 _ rfl
 have m7:=he 7 _ rfl
 have m8:=he 8 _ rfl
 have m9:=he 9 _ rfl
 have m10:=he 10 _ rfl
 have n0:=fun o=>hf o 0 _ rfl
 have n1:=fun o=>hf o 1 _ rfl
 have n2:=fun o=>hf o 2 _ rfl
 have n3:=fun o=>hf o 3 _ rfl
 have n4:=fun o=>hf o 4 _ rfl
 have n5:=fun o=>hf o 5 _ rfl
 have n6:=fun o=>hf o 6 _ rfl
 have n7:=fun o=>hf o 7 _ rfl
 have n8:=fun o=>hf o 8 _ rfl
 have n9:=fun o=>hf o 9 _ rfl
 have n10:=fun o=>hf o 10 _ rfl
 clear he hf hr
 have HT:=(show Hid _ from((HI.out.alloc (.cells (qab y) 162)).set y).drew)
 unfold qab bs at HT
 simp only[qbh]at l3 l4
 unfold qad qab qak bs at l3 l4
 simp only[Option.getD_some,Option.isSome_some,if_true]at l3 l4
 go_region
 go_wp2_with fail
 unfold qcn at HT
 refine(HT.out).post ?_ ?_
 ·rfl
 ·rfl
end Go.Proofs.YtfkhljmiehdgmaaGreatDoor
