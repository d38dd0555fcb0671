/-
  Steps of the proof.
-/
import Derived.Test.YtfkhljmiehdgmaaGreatDoorCmAF
set_option maxRecDepth 100000
set_option maxHeartbeats 40000000
namespace Go.Proofs.YtfkhljmiehdgmaaGreatDoor
open Go.RowKit
theorem qw9(b:UInt8)(w:World)(h:Pl.among b Pl.qdl=true) :
  Calls Tryz.prog 130 #[.string ⟨#[9,10,12,13,32,47,62]⟩,.int .u8 b.toNat] w fun e w'=>∃x:Int,0<=x/\e=.returned (.int .i64 x)/\w=w':=
 qb3 b _ Pl.qdl w rfl h
theorem q0z(b:UInt8)(w:World)(h:Pl.among b Pl.qdl=false) :
  Calls Tryz.prog 130 #[.string ⟨#[9,10,12,13,32,47,62]⟩,.int .u8 b.toNat] w fun e w'=>e=.returned (.int .i64 (-1))/\w=w':=
 qce b _ Pl.qdl w rfl h
theorem q66(x:Pl.Sx)(b:UInt8)(w:World)(hs:x.st.elem.length<=1000) :
  Calls Tryz.prog 91 #[qap x,.int .u8 b.toNat] w fun e w'=>e=.returned (.bool (x.st.ends b))/\Below w.heap.size w w':=by
 have hz:(ByteArray.mk x.st.ending.toArray).size=x.st.ending.length:=by simp[ByteArray.size]
 have hl:=qq9 x.st;have he:=fun w=>qra x w hs;have HD:Hid (x.st.ends b=(decide (x.st.read=x.st.ending.length) && Pl.among b Pl.qdl)):=rfl;have hb:x.st.ending.length<=1002:=by omega
 generalize x.st.ending=E at hz hl he HD hb;clear hl;have Ha:=qjq w x 162;unfold qaf bs at Ha;unfold qap qaf bs;by_cases h1:x.st.read=E.length
 ·have Hb:((x.st.read:Int)==(E.length:Int))=true:=by rw[beq_iff_eq];omega
  have H1:Hid (x.st.read=E.length):=h1;clear h1;by_cases h2:Pl.among b Pl.qdl=true
  ·go_enter Tryz.func91,Tryz.ntmps91
   go_wp2_with fail
   first|go_region_with (first
    |(go_at_call 129;refine(he _).mono ?_;rintro e w1 ⟨rfl,ha⟩;have q4:=(Ha.drew.kept ha (by simp)).read;have hw:Below w.heap.size w w1:=((ba _).drew).trans (ha.mono (by simp)))
    |(go_at_call 130;refine(qw9 b _ h2).mono ?_;rintro e w' ⟨x',hc,rfl,rfl⟩))|fail
   all_goals
    go_wp2
    go_ret
    exact⟨qbo (by rw[HD.out,h2,decide_eq_true H1.out];rfl),hw⟩
  ·have h2:=Bool.eq_false_iff.2 h2
   go_enter Tryz.func91,Tryz.ntmps91
   go_wp2_with fail
   first|go_region_with (first
    |(go_at_call 129;refine(he _).mono ?_;rintro e w1 ⟨rfl,ha⟩;have q4:=(Ha.drew.kept ha (by simp)).read;have hw:Below w.heap.size w w1:=((ba _).drew).trans (ha.mono (by simp)))
    |(go_at_call 130;refine(q0z b _ h2).mono ?_;rintro e w' ⟨rfl,rfl⟩))|fail
   all_goals
    go_wp2
    go_ret
    exact⟨qbo (by rw[HD.out,h2];rw[Bool.and_false]),hw⟩
 ·have Hb:((x.st.read:Int)==(E.length:Int))=false:=by rw[beq_eq_false_iff_ne];omega
  have H1:Hid (¬x.st.read=E.length):=h1;clear h1
  ·go_enter Tryz.func91,Tryz.ntmps91
   go_wp2_with fail
   first|go_region_with (first
    |(go_at_call 129;refine(he _).mono ?_;rintro e w1 ⟨rfl,ha⟩;have q4:=(Ha.drew.kept ha (by simp)).read;have hw:Below w.heap.size w w1:=((ba _).drew).trans (ha.mono (by simp)))
    |fail)|fail
   all_goals
    go_wp2
    go_ret
    exact⟨qbo (by rw[HD.out,decide_eq_false H1.out];rw[Bool.false_and]),hw⟩
end Go.Proofs.YtfkhljmiehdgmaaGreatDoor
