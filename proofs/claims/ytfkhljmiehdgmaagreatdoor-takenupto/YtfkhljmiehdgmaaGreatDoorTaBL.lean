/-
  Steps of the proof (texts laid together, blanks left out): PgWC.
-/
import Derived.Test.YtfkhljmiehdgmaaGreatDoorTaAU
namespace Go.Proofs.YtfkhljmiehdgmaaGreatDoor
open Go.RowKit
theorem qvn (b:UInt8) (w:World) (h:Pl.qa0 b Pl.qgx=true) :
  Calls Tryz.prog 130 #[.string ⟨#[9,10,12,13,32,47,62]⟩,.int .u8 b.toNat] w fun e w'=>∃ x:Int,0≤x∧e=.returned (.int .i64 x)∧w=w':=
 qb2 b _ Pl.qgx w rfl h
theorem qyd (b:UInt8) (w:World) (h:Pl.qa0 b Pl.qgx=false) :
  Calls Tryz.prog 130 #[.string ⟨#[9,10,12,13,32,47,62]⟩,.int .u8 b.toNat] w fun e w'=>e=.returned (.int .i64 (-1))∧w=w':=
 qb4 b _ Pl.qgx w rfl h
set_option maxRecDepth 100000 in
set_option maxHeartbeats 6400000 in
theorem qfx (x:Pl.Sx) (b:UInt8) (w:World) (hs:x.st.elem.length≤1000) :
  Calls Tryz.prog 91 #[qad x,.int .u8 b.toNat] w fun e w'=>e=.returned (.bool (x.st.ends b))∧Below w.heap.size w w':=by
 have hz:(ByteArray.mk x.st.ending.toArray).size=x.st.ending.length:=by simp[ByteArray.size]
 have hl:=qpu x.st
 have he:=fun w=>qpv x w hs
 have HD:Hid (x.st.ends b=(decide (x.st.read=x.st.ending.length) && Pl.qa0 b Pl.qgx)):=rfl
 have hlo:x.st.ending.length≤1002:=by omega
 generalize x.st.ending=E at hz hl he HD hlo
 clear hl
 have hst:=qg9 w x 162
 unfold qab bs at hst
 unfold qad qab bs
 by_cases h1:x.st.read=E.length
 ·have h1':((x.st.read:Int)==(E.length:Int))=true:=by rw[beq_iff_eq]; omega
  have H1:Hid (x.st.read=E.length):=h1
  clear h1
  by_cases h2:Pl.qa0 b Pl.qgx=true
  ·go_enter Tryz.func91,Tryz.ntmps91
   go_wp2_with fail
   first | go_region_with (first
    | (go_at_call 129; refine(he _).mono ?_; rintro e w1 ⟨rfl,hb1⟩; have q4:=(hst.drew.kept hb1 (by simp)).read; have hw:Below w.heap.size w w1:=(((Below.refl _ _).alloc (Nat.le_refl _) _).drew).trans (hb1.mono (by simp)))
    | (go_at_call 130; refine(qvn b _ h2).mono ?_; rintro e w' ⟨x',hx',rfl,rfl⟩)) | fail
   all_goals
    go_wp2
    go_ret
    exact⟨qax (by rw[HD.out,h2,decide_eq_true H1.out]; rfl),hw⟩
  ·have h2:=Bool.eq_false_iff.2 h2
   go_enter Tryz.func91,Tryz.ntmps91
   go_wp2_with fail
   first | go_region_with (first
    | (go_at_call 129; refine(he _).mono ?_; rintro e w1 ⟨rfl,hb1⟩; have q4:=(hst.drew.kept hb1 (by simp)).read; have hw:Below w.heap.size w w1:=(((Below.refl _ _).alloc (Nat.le_refl _) _).drew).trans (hb1.mono (by simp)))
    | (go_at_call 130; refine(qyd b _ h2).mono ?_; rintro e w' ⟨rfl,rfl⟩)) | fail
   all_goals
    go_wp2
    go_ret
    exact⟨qax (by rw[HD.out,h2]; rw[Bool.and_false]),hw⟩
 ·have h1':((x.st.read:Int)==(E.length:Int))=false:=by rw[beq_eq_false_iff_ne]; omega
  have H1:Hid (¬ x.st.read=E.length):=h1
  clear h1
  ·go_enter Tryz.func91,Tryz.ntmps91
   go_wp2_with fail
   first | go_region_with (first
    | (go_at_call 129; refine(he _).mono ?_; rintro e w1 ⟨rfl,hb1⟩; have q4:=(hst.drew.kept hb1 (by simp)).read; have hw:Below w.heap.size w w1:=(((Below.refl _ _).alloc (Nat.le_refl _) _).drew).trans (hb1.mono (by simp)))
    | fail) | fail
   all_goals
    go_wp2
    go_ret
    exact⟨qax (by rw[HD.out,decide_eq_false H1.out]; rw[Bool.false_and]),hw⟩
end Go.Proofs.YtfkhljmiehdgmaaGreatDoor
