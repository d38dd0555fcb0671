/-
  Steps of the proof.
-/
import Derived.Test.YtfkhljmiehdgmaaGreatDoorCuAN
import Derived.Lib.TrimAscii
import Derived.Lib.RuneCount
import Derived.Lib.RuneBytes
import Derived.BigCall
set_option maxRecDepth 100000
set_option maxHeartbeats 40000000
namespace Go.Proofs.YtfkhljmiehdgmaaGreatDoor
open Go.RowKit Go.Proofs.Tryz Pl
theorem qbk(s p:zT)(l:zU)(w:World)(y:p.data.toList=l) :
  zC 191 #[.string s,.string p] w (zQ (.bool (l.isPrefixOf s.data.toList)) w):=by
 refine(strings_HasPrefix s p w).mono ?_;rintro e w' ⟨rfl,rfl⟩;exact⟨qas (by rw[y];rfl),rfl⟩
theorem qz8(kd:Int)(s:zT)(w:World)(z:Tabs w) :
  zC 141 #[zI kd,.string s] w (zR (.tuple #[.string ⟨(qey kd s.data.toList).1.toArray⟩,.string ⟨(qey kd s.data.toList).2.toArray⟩]) w):=by
 generalize D:qey kd s.data.toList=o;have I:Hid (qey kd s.data.toList=o):=D;clear D;have i0:∀w,(Instr.index 298 (.agg qez) (zI 0)).run prog w=.ok (.agg #[zI 1,.string ⟨#[38]⟩,.string ⟨#[38,97,109,112,59]⟩]) w:=fun _=>by kernel_rfl
 have i1:∀w,(Instr.index 298 (.agg qez) (zI 1)).run prog w=.ok (.agg #[zI 1,.string ⟨#[60]⟩,.string ⟨#[38,108,116,59]⟩]) w:=fun _=>by kernel_rfl
 have i2:∀w,(Instr.index 298 (.agg qez) (zI 2)).run prog w=.ok (.agg #[zI 1,.string ⟨#[62]⟩,.string ⟨#[38,103,116,59]⟩]) w:=fun _=>by kernel_rfl
 have i3:∀w,(Instr.index 298 (.agg qez) (zI 3)).run prog w=.ok (.agg #[zI 1,.string ⟨#[34]⟩,.string ⟨#[38,113,117,111,116,59]⟩]) w:=fun _=>by kernel_rfl
 have i4:∀w,(Instr.index 298 (.agg qez) (zI 4)).run prog w=.ok (.agg #[zI 1,.string ⟨#[39]⟩,.string ⟨#[38,35,51,57,59]⟩]) w:=fun _=>by kernel_rfl
 have i5:∀w,(Instr.index 298 (.agg qez) (zI 5)).run prog w=.ok (.agg #[zI 4,.string ⟨#[226,128,168]⟩,.string ⟨#[92,117,50,48,50,56]⟩]) w:=fun _=>by kernel_rfl
 have i6:∀w,(Instr.index 298 (.agg qez) (zI 6)).run prog w=.ok (.agg #[zI 4,.string ⟨#[226,128,169]⟩,.string ⟨#[92,117,50,48,50,57]⟩]) w:=fun _=>by kernel_rfl
 go_enter func141,ntmps141
 go_wp2_with (refine qib rfl 298 _ rfl 8 rfl qez _ z.2.1 underlying298 rfl (by kernel_rfl) ?_)
 go_loopw [7,9] (fun _ i wr=>∃k:Nat,k<=7/\i=zI k/\(qbm.take k).find? (fits kd s.data.toList)=none/\zW w wr) (fun _ i _=>7 - (intOf i).toNat)
 case atStart=>exact⟨0,by omega,rfl,rfl,xL _ _⟩
 case round=>
  obtain⟨k,J,rfl,O,y⟩:=hrel;have T:Hid ((qbm.take k).find? (fits kd s.data.toList)=none):=O;clear O;have U:=y.size;rcases(show k=0\/k=1\/k=2\/k=3\/k=4\/k=5\/k=6\/k=7 by omega)with rfl|rfl|rfl|rfl|rfl|rfl|rfl|rfl
  ·by_cases V:((1:Int)==kd)=true
   ·by_cases X:List.isPrefixOf [38] s.data.toList=true
    ·have Y:Hid (o=([38],[38,97,109,112,59])):=by
      show _=_;rw[<-I.out];exact qhf kd _ 0 _ rfl T.out (by show((1:Int)==kd && List.isPrefixOf [38] _)=true;rw[V,X];rfl)
     go_wp2_with (go_at_call 191;refine(qbk s _ [38] _ rfl).mono ?_;rintro e w' ⟨rfl,rfl⟩)
     go_region
     go_wp2
     go_ret2
     exact⟨by rw[Y.out];rfl,by repeat(first|exact y|exact y.alloc U _|apply Below.drew)⟩
    ·have X:List.isPrefixOf [38] s.data.toList=false:=ye.2 X
     have Y:Hid ((qbm.take (0+1)).find? (fits kd s.data.toList)=none):=
      qdd kd _ 0 _ rfl T.out (by show((1:Int)==kd && List.isPrefixOf [38] _)=false;rw[V,X];rfl)
     go_wp2_with (go_at_call 191;refine(qbk s _ [38] _ rfl).mono ?_;rintro e w' ⟨rfl,rfl⟩)
     go_roundw
     case rel=>exact⟨1,by omega,rfl,Y.out,by repeat(first|exact y|exact y.alloc U _|apply Below.drew)⟩
     case measure=>simp[intOf]
   ·have V:((1:Int)==kd)=false:=by simpa using V
    have Y:Hid ((qbm.take (0+1)).find? (fits kd s.data.toList)=none):=
     qdd kd _ 0 _ rfl T.out (by show((1:Int)==kd && _)=false;rw[V];rfl)
    go_wp2
    go_roundw
    case rel=>exact⟨1,by omega,rfl,Y.out,by repeat(first|exact y|exact y.alloc U _|apply Below.drew)⟩
    case measure=>simp[intOf]
  ·by_cases V:((1:Int)==kd)=true
   ·by_cases X:List.isPrefixOf [60] s.data.toList=true
    ·have Y:Hid (o=([60],[38,108,116,59])):=by
      show _=_;rw[<-I.out];exact qhf kd _ 1 _ rfl T.out (by show((1:Int)==kd && List.isPrefixOf [60] _)=true;rw[V,X];rfl)
     go_wp2_with (go_at_call 191;refine(qbk s _ [60] _ rfl).mono ?_;rintro e w' ⟨rfl,rfl⟩)
     go_region
     go_wp2
     go_ret2
     exact⟨by rw[Y.out];rfl,by repeat(first|exact y|exact y.alloc U _|apply Below.drew)⟩
    ·have X:List.isPrefixOf [60] s.data.toList=false:=ye.2 X
     have Y:Hid ((qbm.take (1+1)).find? (fits kd s.data.toList)=none):=
      qdd kd _ 1 _ rfl T.out (by show((1:Int)==kd && List.isPrefixOf [60] _)=false;rw[V,X];rfl)
     go_wp2_with (go_at_call 191;refine(qbk s _ [60] _ rfl).mono ?_;rintro e w' ⟨rfl,rfl⟩)
     go_roundw
     case rel=>exact⟨2,by omega,rfl,Y.out,by repeat(first|exact y|exact y.alloc U _|apply Below.drew)⟩
     case measure=>simp[intOf]
   ·have V:((1:Int)==kd)=false:=by simpa using V
    have Y:Hid ((qbm.take (1+1)).find? (fits kd s.data.toList)=none):=
     qdd kd _ 1 _ rfl T.out (by show((1:Int)==kd && _)=false;rw[V];rfl)
    go_wp2
    go_roundw
    case rel=>exact⟨2,by omega,rfl,Y.out,by repeat(first|exact y|exact y.alloc U _|apply Below.drew)⟩
    case measure=>simp[intOf]
  ·by_cases V:((1:Int)==kd)=true
   ·by_cases X:List.isPrefixOf [62] s.data.toList=true
    ·have Y:Hid (o=([62],[38,103,116,59])):=by
      show _=_;rw[<-I.out];exact qhf kd _ 2 _ rfl T.out (by show((1:Int)==kd && List.isPrefixOf [62] _)=true;rw[V,X];rfl)
     go_wp2_with (go_at_call 191;refine(qbk s _ [62] _ rfl).mono ?_;rintro e w' ⟨rfl,rfl⟩)
     go_region
     go_wp2
     go_ret2
     exact⟨by rw[Y.out];rfl,by repeat(first|exact y|exact y.alloc U _|apply Below.drew)⟩
    ·have X:List.isPrefixOf [62] s.data.toList=false:=ye.2 X
     have Y:Hid ((qbm.take (2+1)).find? (fits kd s.data.toList)=none):=
      qdd kd _ 2 _ rfl T.out (by show((1:Int)==kd && List.isPrefixOf [62] _)=false;rw[V,X];rfl)
     go_wp2_with (go_at_call 191;refine(qbk s _ [62] _ rfl).mono ?_;rintro e w' ⟨rfl,rfl⟩)
     go_roundw
     case rel=>exact⟨3,by omega,rfl,Y.out,by repeat(first|exact y|exact y.alloc U _|apply Below.drew)⟩
     case measure=>simp[intOf]
   ·have V:((1:Int)==kd)=false:=by simpa using V
    have Y:Hid ((qbm.take (2+1)).find? (fits kd s.data.toList)=none):=
     qdd kd _ 2 _ rfl T.out (by show((1:Int)==kd && _)=false;rw[V];rfl)
    go_wp2
    go_roundw
    case rel=>exact⟨3,by omega,rfl,Y.out,by repeat(first|exact y|exact y.alloc U _|apply Below.drew)⟩
    case measure=>simp[intOf]
  ·by_cases V:((1:Int)==kd)=true
   ·by_cases X:List.isPrefixOf [34] s.data.toList=true
    ·have Y:Hid (o=([34],[38,113,117,111,116,59])):=by
      show _=_;rw[<-I.out];exact qhf kd _ 3 _ rfl T.out (by show((1:Int)==kd && List.isPrefixOf [34] _)=true;rw[V,X];rfl)
     go_wp2_with (go_at_call 191;refine(qbk s _ [34] _ rfl).mono ?_;rintro e w' ⟨rfl,rfl⟩)
     go_region
     go_wp2
     go_ret2
     exact⟨by rw[Y.out];rfl,by repeat(first|exact y|exact y.alloc U _|apply Below.drew)⟩
    ·have X:List.isPrefixOf [34] s.data.toList=false:=ye.2 X
     have Y:Hid ((qbm.take (3+1)).find? (fits kd s.data.toList)=none):=
      qdd kd _ 3 _ rfl T.out (by show((1:Int)==kd && List.isPrefixOf [34] _)=false;rw[V,X];rfl)
     go_wp2_with (go_at_call 191;refine(qbk s _ [34] _ rfl).mono ?_;rintro e w' ⟨rfl,rfl⟩)
     go_roundw
     case rel=>exact⟨4,by omega,rfl,Y.out,by repeat(first|exact y|exact y.alloc U _|apply Below.drew)⟩
     case measure=>simp[intOf]
   ·have V:((1:Int)==kd)=false:=by simpa using V
    have Y:Hid ((qbm.take (3+1)).find? (fits kd s.data.toList)=none):=
     qdd kd _ 3 _ rfl T.out (by show((1:Int)==kd && _)=false;rw[V];rfl)
    go_wp2
    go_roundw
    case rel=>exact⟨4,by omega,rfl,Y.out,by repeat(first|exact y|exact y.alloc U _|apply Below.drew)⟩
    case measure=>simp[intOf]
  ·by_cases V:((1:Int)==kd)=true
   ·by_cases X:List.isPrefixOf [39] s.data.toList=true
    ·have Y:Hid (o=([39],[38,35,51,57,59])):=by
      show _=_;rw[<-I.out];exact qhf kd _ 4 _ rfl T.out (by show((1:Int)==kd && List.isPrefixOf [39] _)=true;rw[V,X];rfl)
     go_wp2_with (go_at_call 191;refine(qbk s _ [39] _ rfl).mono ?_;rintro e w' ⟨rfl,rfl⟩)
     go_region
     go_wp2
     go_ret2
     exact⟨by rw[Y.out];rfl,by repeat(first|exact y|exact y.alloc U _|apply Below.drew)⟩
    ·have X:List.isPrefixOf [39] s.data.toList=false:=ye.2 X
     have Y:Hid ((qbm.take (4+1)).find? (fits kd s.data.toList)=none):=
      qdd kd _ 4 _ rfl T.out (by show((1:Int)==kd && List.isPrefixOf [39] _)=false;rw[V,X];rfl)
     go_wp2_with (go_at_call 191;refine(qbk s _ [39] _ rfl).mono ?_;rintro e w' ⟨rfl,rfl⟩)
     go_roundw
     case rel=>exact⟨5,by omega,rfl,Y.out,by repeat(first|exact y|exact y.alloc U _|apply Below.drew)⟩
     case measure=>simp[intOf]
   ·have V:((1:Int)==kd)=false:=by simpa using V
    have Y:Hid ((qbm.take (4+1)).find? (fits kd s.data.toList)=none):=
     qdd kd _ 4 _ rfl T.out (by show((1:Int)==kd && _)=false;rw[V];rfl)
    go_wp2
    go_roundw
    case rel=>exact⟨5,by omega,rfl,Y.out,by repeat(first|exact y|exact y.alloc U _|apply Below.drew)⟩
    case measure=>simp[intOf]
  ·by_cases V:((4:Int)==kd)=true
   ·by_cases X:List.isPrefixOf [226,128,168] s.data.toList=true
    ·have Y:Hid (o=([226,128,168],[92,117,50,48,50,56])):=by
      show _=_;rw[<-I.out];exact qhf kd _ 5 _ rfl T.out (by show((4:Int)==kd && List.isPrefixOf [226,128,168] _)=true;rw[V,X];rfl)
     go_wp2_with (go_at_call 191;refine(qbk s _ [226,128,168] _ rfl).mono ?_;rintro e w' ⟨rfl,rfl⟩)
     go_region
     go_wp2
     go_ret2
     exact⟨by rw[Y.out];rfl,by repeat(first|exact y|exact y.alloc U _|apply Below.drew)⟩
    ·have X:List.isPrefixOf [226,128,168] s.data.toList=false:=ye.2 X
     have Y:Hid ((qbm.take (5+1)).find? (fits kd s.data.toList)=none):=
      qdd kd _ 5 _ rfl T.out (by show((4:Int)==kd && List.isPrefixOf [226,128,168] _)=false;rw[V,X];rfl)
     go_wp2_with (go_at_call 191;refine(qbk s _ [226,128,168] _ rfl).mono ?_;rintro e w' ⟨rfl,rfl⟩)
     go_roundw
     case rel=>exact⟨6,by omega,rfl,Y.out,by repeat(first|exact y|exact y.alloc U _|apply Below.drew)⟩
     case measure=>simp[intOf]
   ·have V:((4:Int)==kd)=false:=by simpa using V
    have Y:Hid ((qbm.take (5+1)).find? (fits kd s.data.toList)=none):=
     qdd kd _ 5 _ rfl T.out (by show((4:Int)==kd && _)=false;rw[V];rfl)
    go_wp2
    go_roundw
    case rel=>exact⟨6,by omega,rfl,Y.out,by repeat(first|exact y|exact y.alloc U _|apply Below.drew)⟩
    case measure=>simp[intOf]
  ·by_cases V:((4:Int)==kd)=true
   ·by_cases X:List.isPrefixOf [226,128,169] s.data.toList=true
    ·have Y:Hid (o=([226,128,169],[92,117,50,48,50,57])):=by
      show _=_;rw[<-I.out];exact qhf kd _ 6 _ rfl T.out (by show((4:Int)==kd && List.isPrefixOf [226,128,169] _)=true;rw[V,X];rfl)
     go_wp2_with (go_at_call 191;refine(qbk s _ [226,128,169] _ rfl).mono ?_;rintro e w' ⟨rfl,rfl⟩)
     go_region
     go_wp2
     go_ret2
     exact⟨by rw[Y.out];rfl,by repeat(first|exact y|exact y.alloc U _|apply Below.drew)⟩
    ·have X:List.isPrefixOf [226,128,169] s.data.toList=false:=ye.2 X
     have Y:Hid ((qbm.take (6+1)).find? (fits kd s.data.toList)=none):=
      qdd kd _ 6 _ rfl T.out (by show((4:Int)==kd && List.isPrefixOf [226,128,169] _)=false;rw[V,X];rfl)
     go_wp2_with (go_at_call 191;refine(qbk s _ [226,128,169] _ rfl).mono ?_;rintro e w' ⟨rfl,rfl⟩)
     go_roundw
     case rel=>exact⟨7,by omega,rfl,Y.out,by repeat(first|exact y|exact y.alloc U _|apply Below.drew)⟩
     case measure=>simp[intOf]
   ·have V:((4:Int)==kd)=false:=by simpa using V
    have Y:Hid ((qbm.take (6+1)).find? (fits kd s.data.toList)=none):=
     qdd kd _ 6 _ rfl T.out (by show((4:Int)==kd && _)=false;rw[V];rfl)
    go_wp2
    go_roundw
    case rel=>exact⟨7,by omega,rfl,Y.out,by repeat(first|exact y|exact y.alloc U _|apply Below.drew)⟩
    case measure=>simp[intOf]
  ·have Y:Hid (o=([],[])):=by
    show _=_;rw[<-I.out];exact q9q kd _ T.out
   go_wp2
   go_ret2
   exact⟨by rw[Y.out];rfl,y⟩
namespace Pl
def ctl(b:UInt8):Bool:=decide (b.toNat<32) || decide (b.toNat=127)
def qee(kd:Int)(b:UInt8):Bool:=
 bif kd==3 then !(among b qgv)else bif kd==4 then ctl b || among b [34,39,38,47,60,62,92,96]else bif kd==5 then odd b else false
theorem qyx(b:UInt8):qee 3 b=!(among b qgv):=rfl
theorem q3v(b:UInt8):qee 4 b=(ctl b || among b [34,39,38,47,60,62,92,96]):=rfl
theorem q3u(b:UInt8):qee 5 b=(ctl b || among b [34,39,38,47,60,62,92]):=by
 show odd b=_;unfold odd ctl;rw[Bool.or_assoc]
theorem qyy(b:UInt8):qee 1 b=false:=rfl
theorem qvw(b:UInt8)(h:qbl b=true):qee 3 b=false:=by rw[qyx,<-qvd,h];rfl
theorem qyw(b:UInt8)(h:qea b=true):qee 3 b=false:=by rw[qyx,<-qvd,h];simp
theorem q17(b:UInt8)(h:among b [45,46,95,126,47,63,35,91,93,64,33,36,40,41,42,43,44,59,61]=true):qee 3 b=false:=by rw[qyx,<-qvd,h];simp
theorem q6f(b:UInt8)(y:qbl b=false)(z:qea b=false)(h:among b [45,46,95,126,47,63,35,91,93,64,33,36,40,41,42,43,44,59,61]=false):qee 3 b=true:=by rw[qyx,<-qvd,h,y,z];rfl
theorem zef(b:UInt8)(h:b.toNat<32):ctl b=true:=by simp[ctl,h]
theorem zab(b:UInt8)(h:b.toNat=127):ctl b=true:=by simp[ctl,h]
theorem zaa(b:UInt8)(h:¬b.toNat<32)(y:¬b.toNat=127):ctl b=false:=by simp[ctl,h,y]
end Pl
theorem qvf(b:UInt8)(w:World)(y:Tabs w) :
  zC 143 #[zI 3,zJ b.toNat] w (zQ (.bool (qee 3 b)) w):=by
 have c0:w.cell? (zO 9 21)=some _:=y.2.2 21 _ rfl;have c1:w.cell? (zO 9 22)=some _:=y.2.2 22 _ rfl;have c2:w.cell? (zO 9 23)=some (.string ⟨#[45,46,95,126,47,63,35,91,93,64,33,36,40,41,42,43,44,59,61]⟩):=y.2.2 23 _ rfl;clear y;by_cases z:qbl b=true
 ·have D:Hid (qee 3 b=false):=qvw b z
  go_enter func143,ntmps143
  go_wp2_with (first|(go_at_call 132;refine cm (qby b _) ?_)|(go_at_call 102;refine cm (qde b _) ?_))
  go_ret
  exact⟨qas (by rw[D.out]),rfl⟩
 have z:qbl b=false:=ye.2 z;by_cases I:qea b=true
 ·have D:Hid (qee 3 b=false):=qyw b I
  go_enter func143,ntmps143
  go_wp2_with (first|(go_at_call 132;refine cm (qby b _) ?_)|(go_at_call 102;refine cm (qde b _) ?_))
  go_ret
  exact⟨qas (by rw[D.out]),rfl⟩
 have I:qea b=false:=ye.2 I;by_cases J:among b [45,46,95,126,47,63,35,91,93,64,33,36,40,41,42,43,44,59,61]=true
 ·have D:Hid (qee 3 b=false):=q17 b J
  go_enter func143,ntmps143
  go_wp2_with (first|(go_at_call 132;refine cm (qby b _) ?_)|(go_at_call 102;refine cm (qde b _) ?_)|(go_at_call 130;refine(qgw b _ [45,46,95,126,47,63,35,91,93,64,33,36,40,41,42,43,44,59,61] _ rfl J).mono ?_;rintro e w' ⟨x,O,rfl,rfl⟩))
  go_ret
  exact⟨qas (by rw[D.out];simp;omega),rfl⟩
 have J:among b [45,46,95,126,47,63,35,91,93,64,33,36,40,41,42,43,44,59,61]=false:=ye.2 J;have D:Hid (qee 3 b=true):=q6f b z I J;go_enter func143,ntmps143
 go_wp2_with (first|(go_at_call 132;refine cm (qby b _) ?_)|(go_at_call 102;refine cm (qde b _) ?_)|(go_at_call 130;refine cm (qgd b _ [45,46,95,126,47,63,35,91,93,64,33,36,40,41,42,43,44,59,61] _ rfl J) ?_))
 go_ret
 exact⟨qas (by rw[D.out]),rfl⟩
theorem q1g(b:UInt8)(w:World)(z:Tabs w) :
  zC 143 #[zI 1,zJ b.toNat] w (zQ (.bool (qee 1 b)) w):=by
 have c0:w.cell? (zO 9 7)=some _:=z.2.2 7 _ rfl;have c1:w.cell? (zO 9 8)=some _:=z.2.2 8 _ rfl;have c2:w.cell? (zO 9 9)=some _:=z.2.2 9 _ rfl;clear z;by_cases D:b.toNat<32
 ·have I:Hid (qee 1 b=false):=qyy b
  go_enter func143,ntmps143
  go_wp2_with (first|fail)
  go_ret
  exact⟨qas (by rw[I.out]),rfl⟩
 by_cases J:b.toNat=127
 ·have I:Hid (qee 1 b=false):=qyy b
  have J:((b.toNat:Int)==127)=true:=yF.2 (by omega);go_enter func143,ntmps143
  go_wp2_with (first|fail)
  go_ret
  exact⟨qas (by rw[I.out]),rfl⟩
 have y:Hid (ctl b=false):=zaa b D J;have J:((b.toNat:Int)==127)=false:=yf.2 (by omega);have O:among b []=false:=rfl;have I:Hid (qee 1 b=false):=qyy b;go_enter func143,ntmps143
 go_wp2_with (first|(go_at_call 130;refine cm (qgd b _ [] _ rfl O) ?_))
 go_ret
 exact⟨qas (by rw[I.out]),rfl⟩
theorem qxu(b:UInt8)(w:World)(z:Tabs w) :
  zC 143 #[zI 4,zJ b.toNat] w (zQ (.bool (qee 4 b)) w):=by
 have c0:w.cell? (zO 9 28)=some _:=z.2.2 28 _ rfl;have c1:w.cell? (zO 9 29)=some _:=z.2.2 29 _ rfl;have c2:w.cell? (zO 9 30)=some _:=z.2.2 30 _ rfl;clear z;by_cases D:b.toNat<32
 ·have I:Hid (qee 4 b=true):=by show _=_;rw[q3v,zef b D];rfl
  go_enter func143,ntmps143
  go_wp2_with (first|fail)
  go_ret
  exact⟨qas (by rw[I.out]),rfl⟩
 by_cases J:b.toNat=127
 ·have I:Hid (qee 4 b=true):=by show _=_;rw[q3v,zab b J];rfl
  have J:((b.toNat:Int)==127)=true:=yF.2 (by omega);go_enter func143,ntmps143
  go_wp2_with (first|fail)
  go_ret
  exact⟨qas (by rw[I.out]),rfl⟩
 have y:Hid (ctl b=false):=zaa b D J;have J:((b.toNat:Int)==127)=false:=yf.2 (by omega);by_cases O:among b [34,39,38,47,60,62,92,96]=true
 ·have I:Hid (qee 4 b=true):=by show _=_;rw[q3v,y.out,O];rfl
  go_enter func143,ntmps143
  go_wp2_with (first|(go_at_call 130;refine(qgw b _ [34,39,38,47,60,62,92,96] _ rfl O).mono ?_;rintro e w' ⟨x,T,rfl,rfl⟩))
  go_ret
  exact⟨qas (by rw[I.out]),rfl⟩
 ·have O:among b [34,39,38,47,60,62,92,96]=false:=ye.2 O
  have I:Hid (qee 4 b=false):=by show _=_;rw[q3v,y.out,O];rfl
  go_enter func143,ntmps143
  go_wp2_with (first|(go_at_call 130;refine cm (qgd b _ [34,39,38,47,60,62,92,96] _ rfl O) ?_))
  go_ret
  exact⟨qas (by rw[I.out]),rfl⟩
theorem qxv(b:UInt8)(w:World)(z:Tabs w) :
  zC 143 #[zI 5,zJ b.toNat] w (zQ (.bool (qee 5 b)) w):=by
 have c0:w.cell? (zO 9 35)=some _:=z.2.2 35 _ rfl;have c1:w.cell? (zO 9 36)=some _:=z.2.2 36 _ rfl;have c2:w.cell? (zO 9 37)=some _:=z.2.2 37 _ rfl;clear z;by_cases D:b.toNat<32
 ·have I:Hid (qee 5 b=true):=by show _=_;rw[q3u,zef b D];rfl
  go_enter func143,ntmps143
  go_wp2_with (first|fail)
  go_ret
  exact⟨qas (by rw[I.out]),rfl⟩
 by_cases J:b.toNat=127
 ·have I:Hid (qee 5 b=true):=by show _=_;rw[q3u,zab b J];rfl
  have J:((b.toNat:Int)==127)=true:=yF.2 (by omega);go_enter func143,ntmps143
  go_wp2_with (first|fail)
  go_ret
  exact⟨qas (by rw[I.out]),rfl⟩
 have y:Hid (ctl b=false):=zaa b D J;have J:((b.toNat:Int)==127)=false:=yf.2 (by omega);by_cases O:among b [34,39,38,47,60,62,92]=true
 ·have I:Hid (qee 5 b=true):=by show _=_;rw[q3u,y.out,O];rfl
  go_enter func143,ntmps143
  go_wp2_with (first|(go_at_call 130;refine(qgw b _ [34,39,38,47,60,62,92] _ rfl O).mono ?_;rintro e w' ⟨x,T,rfl,rfl⟩))
  go_ret
  exact⟨qas (by rw[I.out]),rfl⟩
 ·have O:among b [34,39,38,47,60,62,92]=false:=ye.2 O
  have I:Hid (qee 5 b=false):=by show _=_;rw[q3u,y.out,O];rfl
  go_enter func143,ntmps143
  go_wp2_with (first|(go_at_call 130;refine cm (qgd b _ [34,39,38,47,60,62,92] _ rfl O) ?_))
  go_ret
  exact⟨qas (by rw[I.out]),rfl⟩
namespace Pl
open Go.Lib (decodeL decodeN encodeRune)
theorem qrd(s:zT)(pos:Nat):Utf8.decode s pos=decodeL (s.data.toList.drop pos):=by
 rw[Lib.decode_N s pos,decodeL_N];simp[List.getD_eq_getElem?_getD,List.getElem?_drop]
theorem zal(l:zU)(y:l≠[]):qd3 l=encodeRune (if((decodeL l).1:Int)=0 then 65533 else((decodeL l).1:Int))++qd3 (l.drop (decodeL l).2):=by
 by_cases J:(decodeL l).1=65533/\(decodeL l).2=1
 ·have O:qen l=0:=by unfold qen bad;rw[if_neg y];simp[J.1,J.2]
  rw[qy1 l y (.inl O),if_neg (by omega),J.1,J.2];rfl
 have O:qen l=(decodeL l).2:=by
  unfold qen bad;rw[if_neg y,if_neg];simpa using J
 have T:=Lib.decodeL_width l;have U:=Lib.encode_decode l y J
 match l,y with
 |b::r,_=>
   by_cases V:b=0
   ·have hd:decodeL (b::r)=(b.toNat,1):=Lib.decodeL_ascii b r (by rw[V];decide)
    rw[qy1 (b::r) (by simp) (.inr (by rw[V];rfl)),hd];simp[V];rfl
   ·have X:(decodeL (b::r)).1≠0:=by
     intro q;rw[q]at U;have z:=yE List.length U;have D:min (decodeL (b::r)).2 (r.length+1)=1:=by
      rw[yP]at z;exact z.symm
     have I:=Lib.decodeL_le (b::r) (by simp);simp only[yK]at I;have Y:(decodeL (b::r)).2=1:=by omega
     rw[Y]at U;have:encodeRune ((0:Nat):Int)=[0]:=by decide
     rw[this]at U;simp at U;exact V U.symm
    rw[q6i (b::r) (by simp) (by rw[O];rintro(q|q);omega;simp at q;exact V q),O,if_neg (by omega),U]
theorem q6h(s:zT)(pos:Nat)(h:pos<s.size):qd3 (s.data.toList.drop pos)=encodeRune (if((Utf8.decode s pos).1:Int)=0 then 65533 else((Utf8.decode s pos).1:Int))++qd3 (s.data.toList.drop (pos+(Utf8.decode s pos).2)):=by
 rw[qrd,zal _ (by rw[qj6 s pos h];simp),yD]
end Pl
theorem zd4(r:Int):(Lib.runeCells r).length<=4:=(Lib.runeCells_le r).2
theorem qte(w:World):(w.alloc (Obj.cells #[Value.pointer none,Value.slice none 0 0] 153)).heap[w.heap.size]?=zK #[.pointer none,zN] 153:=by
 show(w.heap.push _)[w.heap.size]?=_;simp
theorem qy2(s:zT)(w:World)(hs:s.size<=100000000) :
  zC 99 #[.string s] w (zR (.string ⟨(qd3 s.data.toList).toArray⟩) w):=by
 go_enter func99,ntmps99
 go_wp2_with fail
 refine(Builder_Grow_fresh w.heap.size w.heap.size s.size _ (yg _) (qte w) (by simp) (by omega)).mono ?_;rintro e W1 ⟨rfl,Z,T⟩;have Ha:w.heap.size+1<=W1.heap.size:=by have:=T.size;simpa using this
 have J:zW w W1:=((xL _ w).alloc (yg _) _).trans T;go_wp2
 go_loopw [] (fun wr=>∃(pos:Nat) (acc:zU),Lib.IsBuilderF 153 5 w.heap.size w.heap.size (Lib.byteCells acc) wr/\wr.heap[W1.heap.size]?=some (.stringIter s pos)/\zW w wr/\acc++qd3 (s.data.toList.drop pos)=qd3 s.data.toList/\acc.length<=4*pos/\pos<=s.size) (fun wr=>s.size - wr.iterPos (W1.heap.size))
 case atStart=>
  refine⟨0,[],(Lib.IsBuilderF.of (Or.inr Z)).alloc _,?_,J.alloc (by omega) _,rfl,by simp,by omega⟩;exact World.iter_heap W1 s 0
 case round=>
  obtain⟨pos,acc,hI,hit,U,z,hb,Hb⟩:=hrel;have HA:Hid (acc++qd3 (s.data.toList.drop pos)=qd3 s.data.toList):=z;clear z;have hc:W1.heap.size<wr.heap.size:=(ya.1 hit).1;by_cases hp:pos<s.size
  ·have ha:∀ty,(Instr.next (zP W1.heap.size) true ty).run prog wr=_:=fun ty=>Lib.run_next_any_at wr W1.heap.size s pos ty hit hp
   have Hc:1<=(Utf8.decode s pos).2:=Lib.decode_width_pos s pos hp;have he:=decode_le s pos;have V:pos+(Utf8.decode s pos).2<=s.size:=by
    have:=Lib.decodeL_le (s.data.toList.drop pos) (by rw[qj6 s pos hp];simp);rw[<-qrd]at this;rw[yM,q84]at this;omega
   have X:Hid (qd3 (s.data.toList.drop pos)=_):=q6h s pos hp;have Y:=hI.iterAt hit (pos+(Utf8.decode s pos).2);have y:=Lib.iterAt_heap wr W1.heap.size s pos (pos+(Utf8.decode s pos).2) hit;have D:=Lib.below_iterAt U (k:=W1.heap.size) (by omega) s (pos+(Utf8.decode s pos).2);have I:w.heap.size<=(wr.iterAt W1.heap.size s (pos+(Utf8.decode s pos).2)).heap.size:=by rw[Lib.iterAt_size];omega
   by_cases h0:((Utf8.decode s pos).1:Int)=0
   ·have H0:Hid (((Utf8.decode s pos).1:Int)=0):=h0
    have h1:(((Utf8.decode s pos).1:Int)==0)=true:=yF.2 h0;clear h0;go_wp2_with (go_at_call 140;refine(Builder_WriteRune_k w.heap.size w.heap.size _ 65533 (by omega) (by omega) _ Y (by rw[Lib.byteCells_length];omega) I).mono ?_)
    rintro e W2 ⟨rfl,h2,b2,k2⟩;go_wp2
    go_roundw
    case rel=>
     refine⟨pos+(Utf8.decode s pos).2,acc++Lib.encodeRune 65533,?_,k2.iter y (by omega),D.trans b2,?_,?_,V⟩
     ·rw[Lib.byteCells_append,Lib.byteCells_encodeRune];exact Or.inr h2
     ·rw[<-HA.out,X.out,if_pos H0.out,yq]
     ·have O:=zd4 65533
      rw[Lib.runeCells_length]at O;simp only[yJ];omega
    case measure=>
     simp only[World.iterPos,k2.iter y (by omega),hit];omega
   ·have H0:Hid (¬((Utf8.decode s pos).1:Int)=0):=h0
    have h1:(((Utf8.decode s pos).1:Int)==0)=false:=yf.2 h0;clear h0;go_wp2_with (go_at_call 140;refine(Builder_WriteRune_k w.heap.size w.heap.size _ _ (by omega) (by omega) _ Y (by rw[Lib.byteCells_length];omega) I).mono ?_)
    rintro e W2 ⟨rfl,h2,b2,k2⟩;go_wp2
    go_roundw
    case rel=>
     refine⟨pos+(Utf8.decode s pos).2,acc++Lib.encodeRune ((Utf8.decode s pos).1:Int),?_,k2.iter y (by omega),D.trans b2,?_,?_,V⟩
     ·rw[Lib.byteCells_append,Lib.byteCells_encodeRune];exact Or.inr h2
     ·rw[<-HA.out,X.out,if_neg H0.out,yq]
     ·have O:=zd4 ((Utf8.decode s pos).1:Int)
      rw[Lib.runeCells_length]at O;simp only[yJ];omega
    case measure=>
     simp only[World.iterPos,k2.iter y (by omega),hit];omega
  ·have ha:∀ty,(Instr.next (zP W1.heap.size) true ty).run prog wr=_:=fun ty=>Lib.run_next_end_at wr W1.heap.size s pos ty hit hp
   go_wp2_with (go_at_call 61;refine(Builder_String_any_k w.heap.size w.heap.size acc _ hI (by omega)).mono ?_)
   rintro e W2 ⟨rfl,_,b2,_⟩;go_wp2
   go_ret
   have e:=HA.out;rw[qvt s pos hp,zak,yw]at e;exact⟨qcl (by rw[<-e]),U.trans b2⟩
namespace Pl
def qhk(kd:Int)(b:UInt8):zU:=
 bif kd==3 then[37]++two b q67 else bif kd==4 then[92,120]++two b qgh else bif kd==5 then 92::(qme (two b qgh)++[32])else[]
theorem zgf(b:UInt8):qhk 3 b=[37]++two b q67:=rfl
theorem zge(b:UInt8):qhk 4 b=[92,120]++two b qgh:=rfl
theorem zgd(b:UInt8):qhk 5 b=92::(qme (two b qgh)++[32]):=rfl
theorem zgu(b:UInt8)(y:b.toNat / 16<16)(z:b.toNat % 16<16):two b q67=[(ByteArray.mk #[48,49,50,51,52,53,54,55,56,57,65,66,67,68,69,70])[b.toNat / 16]'y,(ByteArray.mk #[48,49,50,51,52,53,54,55,56,57,65,66,67,68,69,70])[b.toNat % 16]'z]:=
 zd0 b ⟨#[48,49,50,51,52,53,54,55,56,57,65,66,67,68,69,70]⟩ y z
theorem zdz(b:UInt8)(y:b.toNat / 16<16)(z:b.toNat % 16<16):two b qgh=[(ByteArray.mk #[48,49,50,51,52,53,54,55,56,57,97,98,99,100,101,102])[b.toNat / 16]'y,(ByteArray.mk #[48,49,50,51,52,53,54,55,56,57,97,98,99,100,101,102])[b.toNat % 16]'z]:=
 zd0 b ⟨#[48,49,50,51,52,53,54,55,56,57,97,98,99,100,101,102]⟩ y z
theorem zes(b:UInt8)(h:16<=b.toNat):qme (two b qgh)=two b qgh:=by
 have y:(!(decide (16<=b.toNat)) || (qme (two b qgh)==two b qgh))=true:=qrs (fun b=>!(decide (16<=b.toNat)) || (qme (two b qgh)==two b qgh)) (by decide +kernel) b;simpa [h]using y
theorem zer(b:UInt8)(h:b.toNat<16):qme (two b qgh)=[(two b qgh).getD 1 0]:=by
 have y:(!(decide (b.toNat<16)) || (qme (two b qgh)==[(two b qgh).getD 1 0]))=true:=qrs (fun b=>!(decide (b.toNat<16)) || (qme (two b qgh)==[(two b qgh).getD 1 0])) (by decide +kernel) b;simpa [h]using y
theorem q6g(kd:Int)(b:UInt8):(qhk kd b).length<=6:=by
 have:(qme (two b qgh)).length<=2:=by
  unfold qme;apply qkx<;>simp[two]
 have y:(92::(qme (two b qgh)++[32])).length<=6:=by
  rw[yK,yJ,List.length_singleton];omega
 unfold qhk
 repeat' apply qkx
 ·simp[two]
 ·simp[two]
 ·exact y
 ·simp
end Pl
theorem qkz(acc x y:zU):Lib.byteCells acc++Lib.byteCells x++Lib.byteCells y=Lib.byteCells (acc++(x++y)):=by
 rw[Lib.byteCells_append,Lib.byteCells_append,yq]
theorem qpj(B bl:Nat)(acc:zU)(b:UInt8)(w:World)(J:Tabs w)(O:9<B)(T:Lib.IsBuilderF 153 5 B bl (Lib.byteCells acc) w)(U:acc.length<=1000000000)(I:B<=w.heap.size) :
  zC 144 #[zP bl,zI 3,zJ b.toNat] w fun e w'=>e=.returned (.tuple #[])/\Lib.IsBuilderF 153 5 B bl (Lib.byteCells (acc++qhk 3 b)) w'/\Below B w w':=by
 have V:b.toNat<256:=UInt8.toNat_lt b;have c3:w.cell? (zO 9 24)=some (.string ⟨#[37]⟩):=J.2.2 24 _ rfl;have c4:w.cell? (zO 9 25)=some (.string ⟨#[48,49,50,51,52,53,54,55,56,57,65,66,67,68,69,70]⟩):=J.2.2 25 _ rfl;have X:Hid (two b _=_):=zgu b (by omega) (by omega);go_enter func144,ntmps144
 go_wp2_with fail
 refine(Builder_WriteString_k B bl _ ⟨#[37]⟩ _ T (by rw[Lib.byteCells_length];show _+1<=_;omega) I).mono ?_;rintro e w1 ⟨rfl,Y,b1,_⟩;have z:=J.kept b1 O;have z1:=b1.size;have c5:w1.cell? (zO 9 26)=some (.bool false):=z.2.2 26 _ rfl;have y:Hid ((Lib.byteCells acc++Lib.strCells ⟨#[37]⟩).length=acc.length+1):=by show _=_;simp[Lib.byteCells_length,Lib.strCells]
 by_cases Z:16<=b.toNat
 ·go_wp2_with fail
  refine(Builder_WriteByte_k B bl _ _ _ (Or.inr Y) (by rw[y.out];omega) (by omega)).mono ?_;rintro e w2 ⟨rfl,h2,b2,_⟩;have z2:=b2.size;go_wp2_with fail
  refine(Builder_WriteByte_k B bl _ _ _ (Or.inr h2) (by rw[yJ,y.out];simp;omega) (by omega)).mono ?_;rintro e w3 ⟨rfl,h3,b3,_⟩;have z3:=b3.size;have D:=(z.kept b2 O).kept b3 O;have c6:w3.cell? (zO 9 27)=some (zS):=D.2.2 27 _ rfl;go_wp2_with fail
  refine(Builder_WriteString_k B bl _ ⟨#[]⟩ _ (Or.inr h3) (by simp only[yJ,y.out];show _+0<=_;simp;omega) (by omega)).mono ?_;rintro e w4 ⟨rfl,h4,b4,_⟩;go_wp2_with fail
  go_end0
  refine⟨rfl,?_,((b1.trans b2).trans b3).trans b4⟩;rw[zgf,X.out,<-yw [_,_],<-qkz];exact Or.inr (by simpa [Lib.byteCells,Lib.strCells]using h4)
 ·go_wp2_with fail
  refine(Builder_WriteByte_k B bl _ _ _ (Or.inr Y) (by rw[y.out];omega) (by omega)).mono ?_;rintro e w2 ⟨rfl,h2,b2,_⟩;have z2:=b2.size;go_wp2_with fail
  refine(Builder_WriteByte_k B bl _ _ _ (Or.inr h2) (by rw[yJ,y.out];simp;omega) (by omega)).mono ?_;rintro e w3 ⟨rfl,h3,b3,_⟩;have z3:=b3.size;have D:=(z.kept b2 O).kept b3 O;have c6:w3.cell? (zO 9 27)=some (zS):=D.2.2 27 _ rfl;go_wp2_with fail
  refine(Builder_WriteString_k B bl _ ⟨#[]⟩ _ (Or.inr h3) (by simp only[yJ,y.out];show _+0<=_;simp;omega) (by omega)).mono ?_;rintro e w4 ⟨rfl,h4,b4,_⟩;go_wp2_with fail
  go_end0
  refine⟨rfl,?_,((b1.trans b2).trans b3).trans b4⟩;rw[zgf,X.out,<-yw [_,_],<-qkz];exact Or.inr (by simpa [Lib.byteCells,Lib.strCells]using h4)
theorem qry(B bl:Nat)(acc:zU)(b:UInt8)(w:World)(J:Tabs w)(O:9<B)(T:Lib.IsBuilderF 153 5 B bl (Lib.byteCells acc) w)(U:acc.length<=1000000000)(I:B<=w.heap.size) :
  zC 144 #[zP bl,zI 4,zJ b.toNat] w fun e w'=>e=.returned (.tuple #[])/\Lib.IsBuilderF 153 5 B bl (Lib.byteCells (acc++qhk 4 b)) w'/\Below B w w':=by
 have V:b.toNat<256:=UInt8.toNat_lt b;have c3:w.cell? (zO 9 31)=some (.string ⟨#[92,120]⟩):=J.2.2 31 _ rfl;have c4:w.cell? (zO 9 32)=some (.string ⟨#[48,49,50,51,52,53,54,55,56,57,97,98,99,100,101,102]⟩):=J.2.2 32 _ rfl;have X:Hid (two b _=_):=zdz b (by omega) (by omega);go_enter func144,ntmps144
 go_wp2_with fail
 refine(Builder_WriteString_k B bl _ ⟨#[92,120]⟩ _ T (by rw[Lib.byteCells_length];show _+2<=_;omega) I).mono ?_;rintro e w1 ⟨rfl,Y,b1,_⟩;have z:=J.kept b1 O;have z1:=b1.size;have c5:w1.cell? (zO 9 33)=some (.bool false):=z.2.2 33 _ rfl;have y:Hid ((Lib.byteCells acc++Lib.strCells ⟨#[92,120]⟩).length=acc.length+2):=by show _=_;simp[Lib.byteCells_length,Lib.strCells]
 by_cases Z:16<=b.toNat
 ·go_wp2_with fail
  refine(Builder_WriteByte_k B bl _ _ _ (Or.inr Y) (by rw[y.out];omega) (by omega)).mono ?_;rintro e w2 ⟨rfl,h2,b2,_⟩;have z2:=b2.size;go_wp2_with fail
  refine(Builder_WriteByte_k B bl _ _ _ (Or.inr h2) (by rw[yJ,y.out];simp;omega) (by omega)).mono ?_;rintro e w3 ⟨rfl,h3,b3,_⟩;have z3:=b3.size;have D:=(z.kept b2 O).kept b3 O;have c6:w3.cell? (zO 9 34)=some (zS):=D.2.2 34 _ rfl;go_wp2_with fail
  refine(Builder_WriteString_k B bl _ ⟨#[]⟩ _ (Or.inr h3) (by simp only[yJ,y.out];show _+0<=_;simp;omega) (by omega)).mono ?_;rintro e w4 ⟨rfl,h4,b4,_⟩;go_wp2_with fail
  go_end0
  refine⟨rfl,?_,((b1.trans b2).trans b3).trans b4⟩;rw[zge,X.out,<-yw [_,_],<-qkz];exact Or.inr (by simpa [Lib.byteCells,Lib.strCells]using h4)
 ·go_wp2_with fail
  refine(Builder_WriteByte_k B bl _ _ _ (Or.inr Y) (by rw[y.out];omega) (by omega)).mono ?_;rintro e w2 ⟨rfl,h2,b2,_⟩;have z2:=b2.size;go_wp2_with fail
  refine(Builder_WriteByte_k B bl _ _ _ (Or.inr h2) (by rw[yJ,y.out];simp;omega) (by omega)).mono ?_;rintro e w3 ⟨rfl,h3,b3,_⟩;have z3:=b3.size;have D:=(z.kept b2 O).kept b3 O;have c6:w3.cell? (zO 9 34)=some (zS):=D.2.2 34 _ rfl;go_wp2_with fail
  refine(Builder_WriteString_k B bl _ ⟨#[]⟩ _ (Or.inr h3) (by simp only[yJ,y.out];show _+0<=_;simp;omega) (by omega)).mono ?_;rintro e w4 ⟨rfl,h4,b4,_⟩;go_wp2_with fail
  go_end0
  refine⟨rfl,?_,((b1.trans b2).trans b3).trans b4⟩;rw[zge,X.out,<-yw [_,_],<-qkz];exact Or.inr (by simpa [Lib.byteCells,Lib.strCells]using h4)
theorem qrz(B bl:Nat)(acc:zU)(b:UInt8)(w:World)(J:Tabs w)(O:9<B)(T:Lib.IsBuilderF 153 5 B bl (Lib.byteCells acc) w)(U:acc.length<=1000000000)(I:B<=w.heap.size) :
  zC 144 #[zP bl,zI 5,zJ b.toNat] w fun e w'=>e=.returned (.tuple #[])/\Lib.IsBuilderF 153 5 B bl (Lib.byteCells (acc++qhk 5 b)) w'/\Below B w w':=by
 have V:b.toNat<256:=UInt8.toNat_lt b;have c3:w.cell? (zO 9 38)=some (.string ⟨#[92]⟩):=J.2.2 38 _ rfl;have c4:w.cell? (zO 9 39)=some (.string ⟨#[48,49,50,51,52,53,54,55,56,57,97,98,99,100,101,102]⟩):=J.2.2 39 _ rfl;have X:Hid (two b _=_):=zdz b (by omega) (by omega);go_enter func144,ntmps144
 go_wp2_with fail
 refine(Builder_WriteString_k B bl _ ⟨#[92]⟩ _ T (by rw[Lib.byteCells_length];show _+1<=_;omega) I).mono ?_;rintro e w1 ⟨rfl,Y,b1,_⟩;have z:=J.kept b1 O;have z1:=b1.size;have c5:w1.cell? (zO 9 40)=some (.bool true):=z.2.2 40 _ rfl;have y:Hid ((Lib.byteCells acc++Lib.strCells ⟨#[92]⟩).length=acc.length+1):=by show _=_;simp[Lib.byteCells_length,Lib.strCells]
 by_cases Z:16<=b.toNat
 ·have HC:Hid (qhk 5 b=92::(two b qgh++[32])):=by show _=_;rw[zgd,zes b Z]
  go_wp2_with fail
  refine(Builder_WriteByte_k B bl _ _ _ (Or.inr Y) (by rw[y.out];omega) (by omega)).mono ?_;rintro e w2 ⟨rfl,h2,b2,_⟩;have z2:=b2.size;go_wp2_with fail
  refine(Builder_WriteByte_k B bl _ _ _ (Or.inr h2) (by rw[yJ,y.out];simp;omega) (by omega)).mono ?_;rintro e w3 ⟨rfl,h3,b3,_⟩;have z3:=b3.size;have D:=(z.kept b2 O).kept b3 O;have c6:w3.cell? (zO 9 41)=some (.string ⟨#[32]⟩):=D.2.2 41 _ rfl;go_wp2_with fail
  refine(Builder_WriteString_k B bl _ ⟨#[32]⟩ _ (Or.inr h3) (by simp only[yJ,y.out];show _+1<=_;simp;omega) (by omega)).mono ?_;rintro e w4 ⟨rfl,h4,b4,_⟩;go_wp2_with fail
  go_end0
  refine⟨rfl,?_,((b1.trans b2).trans b3).trans b4⟩;rw[HC.out,X.out];exact Or.inr (by simpa [Lib.byteCells,Lib.strCells]using h4)
 ·have HC:Hid (qhk 5 b=92::([(two b qgh).getD 1 0]++[32])):=by show _=_;rw[zgd,zer b (by omega)]
  go_wp2_with fail
  refine(Builder_WriteByte_k B bl _ _ _ (Or.inr Y) (by rw[y.out];omega) (by omega)).mono ?_;rintro e w3 ⟨rfl,h3,b3,_⟩;have z3:=b3.size;have D:=z.kept b3 O;have c6:w3.cell? (zO 9 41)=some (.string ⟨#[32]⟩):=D.2.2 41 _ rfl;go_wp2_with fail
  refine(Builder_WriteString_k B bl _ ⟨#[32]⟩ _ (Or.inr h3) (by simp only[yJ,y.out];show _+1<=_;simp;omega) (by omega)).mono ?_;rintro e w4 ⟨rfl,h4,b4,_⟩;go_wp2_with fail
  go_end0
  refine⟨rfl,?_,(b1.trans b3).trans b4⟩;rw[HC.out,X.out];exact Or.inr (by simpa [Lib.byteCells,Lib.strCells]using h4)
namespace Pl
def qgi(kd:Int)(l:zU):zU:=
 bif kd==1 then qjh l else bif kd==3 then qjy l else bif kd==4 then qep l else qwo l
theorem zf6(kd:Int):qgi kd []=[]:=by
 unfold qgi;cases kd==1<;>cases kd==3<;>cases kd==4<;>rfl
theorem q9n(kd:Int)(l:zU)(y:kd≠1)(z:kd≠4):qey kd l=([],[]):=by
 have e1:((1:Int)==kd)=false:=yf.2 (by omega);have e4:((4:Int)==kd)=false:=yf.2 (by omega);simp[qey,qbm,fits,List.find?,e1,e4]
theorem zg2(b:UInt8)(l:zU):qey 1 (b::l)=if b=38 then([38],[38,97,109,112,59])else if b=60 then([60],[38,108,116,59])else if b=62 then([62],[38,103,116,59])else if b=34 then([34],[38,113,117,111,116,59])else if b=39 then([39],[38,35,51,57,59])else([],[]):=by
 have e:∀x:UInt8,List.isPrefixOf [x] (b::l)=(x==b):=by intro x;simp[List.isPrefixOf]
 have f:∀x:UInt8,(x==b)=decide (b=x):=by
  intro x;rw[xh,yF,yN];exact eq_comm
 have e4:((4:Int)==1)=false:=rfl;unfold qey qbm fits;simp only[List.find?,e,e4,f,Bool.false_and,beq_self_eq_true,Bool.true_and];by_cases y:b=38
 ·simp[y]
 by_cases z:b=60
 ·simp[z]
 by_cases D:b=62
 ·simp[D]
 by_cases I:b=34
 ·simp[I]
 by_cases J:b=39
 ·simp[J]
 simp[y,z,D,I,J]
theorem qwh(b:UInt8):qp3 b=if b=38 then[38,97,109,112,59]else if b=60 then[38,108,116,59]else if b=62 then[38,103,116,59]else if b=34 then[38,113,117,111,116,59]else if b=39 then[38,35,51,57,59]else[b]:=by
 have:=qrs (fun b=>decide (qp3 b=if b=38 then[38,97,109,112,59]else if b=60 then[38,108,116,59]else if b=62 then[38,103,116,59]else if b=34 then[38,113,117,111,116,59]else if b=39 then[38,35,51,57,59]else[b])) (by decide +kernel) b;simpa using this
theorem qqj:∀(p l:zU),List.isPrefixOf p l=decide (l.take p.length=p)
 |[],l=>by simp
 |a::p,[]=>by simp
 |a::p,b::l=>by
   have ih:=qqj p l;rw[List.isPrefixOf,ih,xh];simp only[yL,yF,yN,yK,xb,List.cons.injEq];constructor
   ·rintro⟨h,y⟩;exact⟨h.symm,y⟩
   ·rintro⟨h,y⟩;exact⟨h.symm,y⟩
theorem zg1(l:zU):qey 4 l=if l.take 3=[226,128,168]then([226,128,168],[92,117,50,48,50,56])else if l.take 3=[226,128,169]then([226,128,169],[92,117,50,48,50,57])else([],[]):=by
 have e1:((1:Int)==4)=false:=rfl;unfold qey qbm fits;simp only[List.find?,e1,qqj,Bool.false_and,beq_self_eq_true,Bool.true_and,yK,yQ];by_cases y:l.take 3=[226,128,168]
 ·simp[y]
 by_cases z:l.take 3=[226,128,169]
 ·simp[z]
 simp[y,z]
theorem esc4(b:UInt8):(odd b || ((b.toNat:Int)==96))=qee 4 b:=by
 have:=qrs (fun b=>(odd b || ((b.toNat:Int)==96))==qee 4 b) (by decide +kernel) b;simpa using this
theorem zc8(kd:Int)(D:kd=1\/kd=3\/kd=4\/kd=5)(l f t:zU)(h:qey kd l=(f,t))(I:f≠[]) :
  qgi kd l=t++qgi kd (l.drop f.length)/\f.length<=l.length/\t.length<=6*f.length:=by
 rcases D with rfl|rfl|rfl|rfl
 ·match l with
  |[]=>
    have e:qey 1 []=([],[]):=by decide
    rw[e]at h;cases h;exact absurd rfl I
  |b::l=>
    rw[zg2]at h;show qjh (b::l)=t++qjh _/\_;have e:qjh (b::l)=qp3 b++qjh l:=rfl;rw[e,qwh];by_cases J:b=38
    ·rw[if_pos J]at h |-;cases h;exact⟨rfl,by simp,by simp⟩
    by_cases O:b=60
    ·rw[if_neg J,if_pos O]at h |-;cases h;exact⟨rfl,by simp,by simp⟩
    by_cases T:b=62
    ·rw[if_neg J,if_neg O,if_pos T]at h |-;cases h;exact⟨rfl,by simp,by simp⟩
    by_cases U:b=34
    ·rw[if_neg J,if_neg O,if_neg T,if_pos U]at h |-;cases h;exact⟨rfl,by simp,by simp⟩
    by_cases V:b=39
    ·rw[if_neg J,if_neg O,if_neg T,if_neg U,if_pos V]at h |-;cases h;exact⟨rfl,by simp,by simp⟩
    rw[if_neg J,if_neg O,if_neg T,if_neg U,if_neg V]at h;cases h;exact absurd rfl I
 ·rw[q9n 3 l (by omega) (by omega)]at h;cases h;exact absurd rfl I
 ·rw[zg1]at h
  show qep l=t++qep _/\_;have key:∀c d e:UInt8,l.take 3=[c,d,e]->∃r,l=c::d::e::r:=by
   intro c d e q
   match l,q with
   |x::y::z::r,q=>
     simp only[xb,List.take_zero,List.cons.injEq,and_true]at q;obtain⟨rfl,rfl,rfl⟩:=q;exact⟨r,rfl⟩
  by_cases J:l.take 3=[226,128,168]
  ·rw[if_pos J]at h;cases h
   obtain⟨r,rfl⟩:=key _ _ _ J;refine⟨?_,by simp,by simp⟩;rw[qiu,if_neg (by decide),if_pos (show List.take 3 (226::128::168::r)=[226,128,168]from rfl)];rfl
  by_cases O:l.take 3=[226,128,169]
  ·rw[if_neg J,if_pos O]at h;cases h
   obtain⟨r,rfl⟩:=key _ _ _ O;refine⟨?_,by simp,by simp⟩;rw[qiu,if_neg (by decide),if_neg (by simp),if_pos (show List.take 3 (226::128::169::r)=[226,128,169]from rfl)];rfl
  rw[if_neg J,if_neg O]at h;cases h;exact absurd rfl I
 ·rw[q9n 5 l (by omega) (by omega)]at h;cases h;exact absurd rfl I
theorem zc9(kd:Int)(y:kd=1\/kd=3\/kd=4\/kd=5)(b:UInt8)(l t:zU)(h:qey kd (b::l)=([],t)) :
  qgi kd (b::l)=(if qee kd b=true then qhk kd b else[b])++qgi kd l:=by
 rcases y with rfl|rfl|rfl|rfl
 ·rw[zg2]at h
  show qjh (b::l)=_++qjh l;rw[qyy,if_neg (by simp)];have e:qjh (b::l)=qp3 b++qjh l:=rfl;rw[e,qwh];by_cases z:b=38
  ·rw[if_pos z]at h;cases h
  by_cases D:b=60
  ·rw[if_neg z,if_pos D]at h;cases h
  by_cases I:b=62
  ·rw[if_neg z,if_neg D,if_pos I]at h;cases h
  by_cases J:b=34
  ·rw[if_neg z,if_neg D,if_neg I,if_pos J]at h;cases h
  by_cases O:b=39
  ·rw[if_neg z,if_neg D,if_neg I,if_neg J,if_pos O]at h;cases h
  rw[if_neg z,if_neg D,if_neg I,if_neg J,if_neg O]
 ·show qon b++qjy l=_++qjy l
  rw[qyx,zgf];by_cases z:among b qgv=true
  ·rw[q5p z,z,if_neg (by simp)]
  ·have z:among b qgv=false:=by simpa using z
   rw[q81 z,z];rfl
 ·show qep (b::l)=_++qep l
  rw[qiu,esc4];by_cases z:qee 4 b=true
  ·rw[if_pos z,if_pos z,zge]
  ·rw[zg1]at h
   by_cases D:(b::l).take 3=[226,128,168]
   ·rw[if_pos D]at h;cases h
   by_cases I:(b::l).take 3=[226,128,169]
   ·rw[if_neg D,if_pos I]at h;cases h
   rw[if_neg z,if_neg z,if_neg D,if_neg I]
 ·show qp7 b++qwo l=_++qwo l
  rw[show qee 5 b=odd b from rfl,zgd];unfold qp7;cases odd b<;>rfl
end Pl
end Go.Proofs.YtfkhljmiehdgmaaGreatDoor
