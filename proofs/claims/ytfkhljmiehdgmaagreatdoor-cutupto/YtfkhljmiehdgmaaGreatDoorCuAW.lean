/-
  Steps of the proof.
-/
import Derived.Test.YtfkhljmiehdgmaaGreatDoorCuAF
set_option maxRecDepth 100000
set_option maxHeartbeats 40000000
namespace Go.Proofs.YtfkhljmiehdgmaaGreatDoor
open Go.RowKit Go.Proofs.Tryz Pl
theorem q00(b:UInt8)(w:World)(h:among b qdl=true) :
  zC 130 #[.string ⟨#[9,10,12,13,32,47,62]⟩,zJ b.toNat] w fun e w'=>∃x:Int,0<=x/\e=.returned (zI x)/\w=w':=
 qb7 b _ qdl w rfl h
theorem q47(b:UInt8)(w:World)(h:among b qdl=false) :
  zC 130 #[.string ⟨#[9,10,12,13,32,47,62]⟩,zJ b.toNat] w (zQ (zI (-1)) w):=
 qci b _ qdl w rfl h
theorem zc6(x:Sx)(b:UInt8)(w:World)(O:x.st.elem.length<=1000) :
  zC 91 #[qar x,zJ b.toNat] w (zR (.bool (x.st.ends b)) w):=by
 have T:(ByteArray.mk x.st.ending.toArray).size=x.st.ending.length:=by simp[ByteArray.size]
 have U:=qth x.st;have V:=fun w=>qti x w O;have X:Hid (x.st.ends b=(decide (x.st.read=x.st.ending.length) && among b qdl)):=rfl;have D:x.st.ending.length<=1002:=by omega
 generalize x.st.ending=E at T U V X D;clear U;have z:=qkk w x 162;unfold qaf bs at z;unfold qar qaf bs;by_cases Y:x.st.read=E.length
 ·have I:((x.st.read:Int)==(E.length:Int))=true:=by rw[yF];omega
  have Z:Hid (x.st.read=E.length):=Y;clear Y;by_cases h2:among b qdl=true
  ·go_enter func91,ntmps91
   go_wp2
   first | go_region_with (first
    |(go_at_call 129;refine(V _).mono ?_;rintro e w1 ⟨rfl,y⟩;have q4:=(z.drew.kept y (by simp)).read;have hw:zW w w1:=((zB _).drew).trans (y.mono (by simp)))
    | (go_at_call 130;refine(q00 b _ h2).mono ?_;rintro e w' ⟨x',J,rfl,rfl⟩)) | fail
   all_goals
    go_wp2
    go_ret
    exact⟨qas (by rw[X.out,h2,yV Z.out];rfl),hw⟩
  ·have h2:=ye.2 h2
   go_enter func91,ntmps91
   go_wp2
   first | go_region_with (first
    |(go_at_call 129;refine(V _).mono ?_;rintro e w1 ⟨rfl,y⟩;have q4:=(z.drew.kept y (by simp)).read;have hw:zW w w1:=((zB _).drew).trans (y.mono (by simp)))
    | (go_at_call 130;refine cm (q47 b _ h2) ?_)) | fail
   all_goals
    go_wp2
    go_ret
    exact⟨qas (by rw[X.out,h2];rw[Bool.and_false]),hw⟩
 ·have I:((x.st.read:Int)==(E.length:Int))=false:=by rw[yf];omega
  have Z:Hid (¬x.st.read=E.length):=Y;clear Y
  ·go_enter func91,ntmps91
   go_wp2
   first | go_region_with (first
    |(go_at_call 129;refine(V _).mono ?_;rintro e w1 ⟨rfl,y⟩;have q4:=(z.drew.kept y (by simp)).read;have hw:zW w w1:=((zB _).drew).trans (y.mono (by simp)))
    | fail) | fail
   all_goals
    go_wp2
    go_ret
    exact⟨qas (by rw[X.out,yx Z.out];rw[Bool.false_and]),hw⟩
end Go.Proofs.YtfkhljmiehdgmaaGreatDoor
