/-
  Steps of the proof.
-/
import Derived.Test.YtfkhljmiehdgmaaGreatDoorCuAN
import Derived.Lib.TrimAscii
import Derived.Lib.RuneCount
import Derived.Lib.RuneBytes
import Derived.BigCall
set_option maxRecDepth 100000
set_option maxHeartbeats 40000000
namespace Go.Proofs.YtfkhljmiehdgmaaGreatDoor
open Go.RowKit Go.Proofs.Tryz Pl
theorem qbk(s p:zT)(l:zU)(w:World)(hp:p.data.toList=l) :
  zC 191 #[.string s,.string p] w (zQ (.bool (l.isPrefixOf s.data.toList)) w):=by
 refine(strings_HasPrefix s p w).mono ?_;rintro e w' ⟨rfl,rfl⟩;exact⟨qas (by rw[hp];rfl),rfl⟩
theorem qz8(kd:Int)(s:zT)(w:World)(ht:Tabs w) :
  zC 141 #[zI kd,.string s] w (zR (.tuple #[zV ((qey kd s.data.toList).1),zV ((qey kd s.data.toList).2)]) w):=by
 generalize ho:qey kd s.data.toList=o;have HO:Hid (qey kd s.data.toList=o):=ho;clear ho;have i0:∀w,(Instr.index 298 (.agg qez) (zI 0)).run prog w=.ok (.agg #[zI 1,.string ⟨#[38]⟩,.string ⟨#[38,97,109,112,59]⟩]) w:=fun _=>by kernel_rfl
 have i1:∀w,(Instr.index 298 (.agg qez) (zI 1)).run prog w=.ok (.agg #[zI 1,.string ⟨#[60]⟩,.string ⟨#[38,108,116,59]⟩]) w:=fun _=>by kernel_rfl
 have i2:∀w,(Instr.index 298 (.agg qez) (zI 2)).run prog w=.ok (.agg #[zI 1,.string ⟨#[62]⟩,.string ⟨#[38,103,116,59]⟩]) w:=fun _=>by kernel_rfl
 have i3:∀w,(Instr.index 298 (.agg qez) (zI 3)).run prog w=.ok (.agg #[zI 1,.string ⟨#[34]⟩,.string ⟨#[38,113,117,111,116,59]⟩]) w:=fun _=>by kernel_rfl
 have i4:∀w,(Instr.index 298 (.agg qez) (zI 4)).run prog w=.ok (.agg #[zI 1,.string ⟨#[39]⟩,.string ⟨#[38,35,51,57,59]⟩]) w:=fun _=>by kernel_rfl
 have i5:∀w,(Instr.index 298 (.agg qez) (zI 5)).run prog w=.ok (.agg #[zI 4,.string ⟨#[226,128,168]⟩,.string ⟨#[92,117,50,48,50,56]⟩]) w:=fun _=>by kernel_rfl
 have i6:∀w,(Instr.index 298 (.agg qez) (zI 6)).run prog w=.ok (.agg #[zI 4,.string ⟨#[226,128,169]⟩,.string ⟨#[92,117,50,48,50,57]⟩]) w:=fun _=>by kernel_rfl
 go_enter func141,ntmps141
 go_wp2_with (refine qib rfl 298 _ rfl 8 rfl qez _ ht.2.1 underlying298 rfl (by kernel_rfl) ?_)
 go_loopw [7,9] (fun _ i wr=>∃k:Nat,k<=7/\i=zI k/\(qbm.take k).find? (fits kd s.data.toList)=none/\zW w wr) (fun _ i _=>7 - (intOf i).toNat)
 case atStart=>exact⟨0,by omega,rfl,rfl,xL _ _⟩
 case round=>
  obtain⟨k,hk,rfl,hn,ha⟩:=hrel;have HN:Hid ((qbm.take k).find? (fits kd s.data.toList)=none):=hn;clear hn;have hz:=ha.size;rcases(show k=0\/k=1\/k=2\/k=3\/k=4\/k=5\/k=6\/k=7 by omega)with rfl|rfl|rfl|rfl|rfl|rfl|rfl|rfl
  ·by_cases hq:((1:Int)==kd)=true
   ·by_cases hp:List.isPrefixOf [38] s.data.toList=true
    ·have HV:Hid (o=([38],[38,97,109,112,59])):=by
      show _=_;rw[<-HO.out];exact qhf kd _ 0 _ rfl HN.out (by show((1:Int)==kd && List.isPrefixOf [38] _)=true;rw[hq,hp];rfl)
     go_wp2_with (go_at_call 191;refine(qbk s _ [38] _ rfl).mono ?_;rintro e w' ⟨rfl,rfl⟩)
     go_region
     go_wp2
     go_ret2
     exact⟨by rw[HV.out];rfl,by repeat(first|exact ha|exact ha.alloc hz _|apply Below.drew)⟩
    ·have hp:List.isPrefixOf [38] s.data.toList=false:=ye.2 hp
     have HV:Hid ((qbm.take (0+1)).find? (fits kd s.data.toList)=none):=
      qdd kd _ 0 _ rfl HN.out (by show((1:Int)==kd && List.isPrefixOf [38] _)=false;rw[hq,hp];rfl)
     go_wp2_with (go_at_call 191;refine(qbk s _ [38] _ rfl).mono ?_;rintro e w' ⟨rfl,rfl⟩)
     go_roundw
     case rel=>exact⟨1,by omega,rfl,HV.out,by repeat(first|exact ha|exact ha.alloc hz _|apply Below.drew)⟩
     case measure=>simp[intOf]
   ·have hq:((1:Int)==kd)=false:=by simpa using hq
    have HV:Hid ((qbm.take (0+1)).find? (fits kd s.data.toList)=none):=
     qdd kd _ 0 _ rfl HN.out (by show((1:Int)==kd && _)=false;rw[hq];rfl)
    go_wp2
    go_roundw
    case rel=>exact⟨1,by omega,rfl,HV.out,by repeat(first|exact ha|exact ha.alloc hz _|apply Below.drew)⟩
    case measure=>simp[intOf]
  ·by_cases hq:((1:Int)==kd)=true
   ·by_cases hp:List.isPrefixOf [60] s.data.toList=true
    ·have HV:Hid (o=([60],[38,108,116,59])):=by
      show _=_;rw[<-HO.out];exact qhf kd _ 1 _ rfl HN.out (by show((1:Int)==kd && List.isPrefixOf [60] _)=true;rw[hq,hp];rfl)
     go_wp2_with (go_at_call 191;refine(qbk s _ [60] _ rfl).mono ?_;rintro e w' ⟨rfl,rfl⟩)
     go_region
     go_wp2
     go_ret2
     exact⟨by rw[HV.out];rfl,by repeat(first|exact ha|exact ha.alloc hz _|apply Below.drew)⟩
    ·have hp:List.isPrefixOf [60] s.data.toList=false:=ye.2 hp
     have HV:Hid ((qbm.take (1+1)).find? (fits kd s.data.toList)=none):=
      qdd kd _ 1 _ rfl HN.out (by show((1:Int)==kd && List.isPrefixOf [60] _)=false;rw[hq,hp];rfl)
     go_wp2_with (go_at_call 191;refine(qbk s _ [60] _ rfl).mono ?_;rintro e w' ⟨rfl,rfl⟩)
     go_roundw
     case rel=>exact⟨2,by omega,rfl,HV.out,by repeat(first|exact ha|exact ha.alloc hz _|apply Below.drew)⟩
     case measure=>simp[intOf]
   ·have hq:((1:Int)==kd)=false:=by simpa using hq
    have HV:Hid ((qbm.take (1+1)).find? (fits kd s.data.toList)=none):=
     qdd kd _ 1 _ rfl HN.out (by show((1:Int)==kd && _)=false;rw[hq];rfl)
    go_wp2
    go_roundw
    case rel=>exact⟨2,by omega,rfl,HV.out,by repeat(first|exact ha|exact ha.alloc hz _|apply Below.drew)⟩
    case measure=>simp[intOf]
  ·by_cases hq:((1:Int)==kd)=true
   ·by_cases hp:List.isPrefixOf [62] s.data.toList=true
    ·have HV:Hid (o=([62],[38,103,116,59])):=by
      show _=_;rw[<-HO.out];exact qhf kd _ 2 _ rfl HN.out (by show((1:Int)==kd && List.isPrefixOf [62] _)=true;rw[hq,hp];rfl)
     go_wp2_with (go_at_call 191;refine(qbk s _ [62] _ rfl).mono ?_;rintro e w' ⟨rfl,rfl⟩)
     go_region
     go_wp2
     go_ret2
     exact⟨by rw[HV.out];rfl,by repeat(first|exact ha|exact ha.alloc hz _|apply Below.drew)⟩
    ·have hp:List.isPrefixOf [62] s.data.toList=false:=ye.2 hp
     have HV:Hid ((qbm.take (2+1)).find? (fits kd s.data.toList)=none):=
      qdd kd _ 2 _ rfl HN.out (by show((1:Int)==kd && List.isPrefixOf [62] _)=false;rw[hq,hp];rfl)
     go_wp2_with (go_at_call 191;refine(qbk s _ [62] _ rfl).mono ?_;rintro e w' ⟨rfl,rfl⟩)
     go_roundw
     case rel=>exact⟨3,by omega,rfl,HV.out,by repeat(first|exact ha|exact ha.alloc hz _|apply Below.drew)⟩
     case measure=>simp[intOf]
   ·have hq:((1:Int)==kd)=false:=by simpa using hq
    have HV:Hid ((qbm.take (2+1)).find? (fits kd s.data.toList)=none):=
     qdd kd _ 2 _ rfl HN.out (by show((1:Int)==kd && _)=false;rw[hq];rfl)
    go_wp2
    go_roundw
    case rel=>exact⟨3,by omega,rfl,HV.out,by repeat(first|exact ha|exact ha.alloc hz _|apply Below.drew)⟩
    case measure=>simp[intOf]
  ·by_cases hq:((1:Int)==kd)=true
   ·by_cases hp:List.isPrefixOf [34] s.data.toList=true
    ·have HV:Hid (o=([34],[38,113,117,111,116,59])):=by
      show _=_;rw[<-HO.out];exact qhf kd _ 3 _ rfl HN.out (by show((1:Int)==kd && List.isPrefixOf [34] _)=true;rw[hq,hp];rfl)
     go_wp2_with (go_at_call 191;refine(qbk s _ [34] _ rfl).mono ?_;rintro e w' ⟨rfl,rfl⟩)
     go_region
     go_wp2
     go_ret2
     exact⟨by rw[HV.out];rfl,by repeat(first|exact ha|exact ha.alloc hz _|apply Below.drew)⟩
    ·have hp:List.isPrefixOf [34] s.data.toList=false:=ye.2 hp
     have HV:Hid ((qbm.take (3+1)).find? (fits kd s.data.toList)=none):=
      qdd kd _ 3 _ rfl HN.out (by show((1:Int)==kd && List.isPrefixOf [34] _)=false;rw[hq,hp];rfl)
     go_wp2_with (go_at_call 191;refine(qbk s _ [34] _ rfl).mono ?_;rintro e w' ⟨rfl,rfl⟩)
     go_roundw
     case rel=>exact⟨4,by omega,rfl,HV.out,by repeat(first|exact ha|exact ha.alloc hz _|apply Below.drew)⟩
     case measure=>simp[intOf]
   ·have hq:((1:Int)==kd)=false:=by simpa using hq
    have HV:Hid ((qbm.take (3+1)).find? (fits kd s.data.toList)=none):=
     qdd kd _ 3 _ rfl HN.out (by show((1:Int)==kd && _)=false;rw[hq];rfl)
    go_wp2
    go_roundw
    case rel=>exact⟨4,by omega,rfl,HV.out,by repeat(first|exact ha|exact ha.alloc hz _|apply Below.drew)⟩
    case measure=>simp[intOf]
  ·by_cases hq:((1:Int)==kd)=true
   ·by_cases hp:List.isPrefixOf [39] s.data.toList=true
    ·have HV:Hid (o=([39],[38,35,51,57,59])):=by
      show _=_;rw[<-HO.out];exact qhf kd _ 4 _ rfl HN.out (by show((1:Int)==kd && List.isPrefixOf [39] _)=true;rw[hq,hp];rfl)
     go_wp2_with (go_at_call 191;refine(qbk s _ [39] _ rfl).mono ?_;rintro e w' ⟨rfl,rfl⟩)
     go_region
     go_wp2
     go_ret2
     exact⟨by rw[HV.out];rfl,by repeat(first|exact ha|exact ha.alloc hz _|apply Below.drew)⟩
    ·have hp:List.isPrefixOf [39] s.data.toList=false:=ye.2 hp
     have HV:Hid ((qbm.take (4+1)).find? (fits kd s.data.toList)=none):=
      qdd kd _ 4 _ rfl HN.out (by show((1:Int)==kd && List.isPrefixOf [39] _)=false;rw[hq,hp];rfl)
     go_wp2_with (go_at_call 191;refine(qbk s _ [39] _ rfl).mono ?_;rintro e w' ⟨rfl,rfl⟩)
     go_roundw
     case rel=>exact⟨5,by omega,rfl,HV.out,by repeat(first|exact ha|exact ha.alloc hz _|apply Below.drew)⟩
     case measure=>simp[intOf]
   ·have hq:((1:Int)==kd)=false:=by simpa using hq
    have HV:Hid ((qbm.take (4+1)).find? (fits kd s.data.toList)=none):=
     qdd kd _ 4 _ rfl HN.out (by show((1:Int)==kd && _)=false;rw[hq];rfl)
    go_wp2
    go_roundw
    case rel=>exact⟨5,by omega,rfl,HV.out,by repeat(first|exact ha|exact ha.alloc hz _|apply Below.drew)⟩
    case measure=>simp[intOf]
  ·by_cases hq:((4:Int)==kd)=true
   ·by_cases hp:List.isPrefixOf [226,128,168] s.data.toList=true
    ·have HV:Hid (o=([226,128,168],[92,117,50,48,50,56])):=by
      show _=_;rw[<-HO.out];exact qhf kd _ 5 _ rfl HN.out (by show((4:Int)==kd && List.isPrefixOf [226,128,168] _)=true;rw[hq,hp];rfl)
     go_wp2_with (go_at_call 191;refine(qbk s _ [226,128,168] _ rfl).mono ?_;rintro e w' ⟨rfl,rfl⟩)
     go_region
     go_wp2
     go_ret2
     exact⟨by rw[HV.out];rfl,by repeat(first|exact ha|exact ha.alloc hz _|apply Below.drew)⟩
    ·have hp:List.isPrefixOf [226,128,168] s.data.toList=false:=ye.2 hp
     have HV:Hid ((qbm.take (5+1)).find? (fits kd s.data.toList)=none):=
      qdd kd _ 5 _ rfl HN.out (by show((4:Int)==kd && List.isPrefixOf [226,128,168] _)=false;rw[hq,hp];rfl)
     go_wp2_with (go_at_call 191;refine(qbk s _ [226,128,168] _ rfl).mono ?_;rintro e w' ⟨rfl,rfl⟩)
     go_roundw
     case rel=>exact⟨6,by omega,rfl,HV.out,by repeat(first|exact ha|exact ha.alloc hz _|apply Below.drew)⟩
     case measure=>simp[intOf]
   ·have hq:((4:Int)==kd)=false:=by simpa using hq
    have HV:Hid ((qbm.take (5+1)).find? (fits kd s.data.toList)=none):=
     qdd kd _ 5 _ rfl HN.out (by show((4:Int)==kd && _)=false;rw[hq];rfl)
    go_wp2
    go_roundw
    case rel=>exact⟨6,by omega,rfl,HV.out,by repeat(first|exact ha|exact ha.alloc hz _|apply Below.drew)⟩
    case measure=>simp[intOf]
  ·by_cases hq:((4:Int)==kd)=true
   ·by_cases hp:List.isPrefixOf [226,128,169] s.data.toList=true
    ·have HV:Hid (o=([226,128,169],[92,117,50,48,50,57])):=by
      show _=_;rw[<-HO.out];exact qhf kd _ 6 _ rfl HN.out (by show((4:Int)==kd && List.isPrefixOf [226,128,169] _)=true;rw[hq,hp];rfl)
     go_wp2_with (go_at_call 191;refine(qbk s _ [226,128,169] _ rfl).mono ?_;rintro e w' ⟨rfl,rfl⟩)
     go_region
     go_wp2
     go_ret2
     exact⟨by rw[HV.out];rfl,by repeat(first|exact ha|exact ha.alloc hz _|apply Below.drew)⟩
    ·have hp:List.isPrefixOf [226,128,169] s.data.toList=false:=ye.2 hp
     have HV:Hid ((qbm.take (6+1)).find? (fits kd s.data.toList)=none):=
      qdd kd _ 6 _ rfl HN.out (by show((4:Int)==kd && List.isPrefixOf [226,128,169] _)=false;rw[hq,hp];rfl)
     go_wp2_with (go_at_call 191;refine(qbk s _ [226,128,169] _ rfl).mono ?_;rintro e w' ⟨rfl,rfl⟩)
     go_roundw
     case rel=>exact⟨7,by omega,rfl,HV.out,by repeat(first|exact ha|exact ha.alloc hz _|apply Below.drew)⟩
     case measure=>simp[intOf]
   ·have hq:((4:Int)==kd)=false:=by simpa using hq
    have HV:Hid ((qbm.take (6+1)).find? (fits kd s.data.toList)=none):=
     qdd kd _ 6 _ rfl HN.out (by show((4:Int)==kd && _)=false;rw[hq];rfl)
    go_wp2
    go_roundw
    case rel=>exact⟨7,by omega,rfl,HV.out,by repeat(first|exact ha|exact ha.alloc hz _|apply Below.drew)⟩
    case measure=>simp[intOf]
  ·have HV:Hid (o=([],[])):=by
    show _=_;rw[<-HO.out];exact q9q kd _ HN.out
   go_wp2
   go_ret2
   exact⟨by rw[HV.out];rfl,ha⟩
namespace Pl
def ctl(b:UInt8):Bool:=decide (b.toNat<32) || decide (b.toNat=127)
def qee(kd:Int)(b:UInt8):Bool:=
 bif kd==3 then !(among b qgv)else bif kd==4 then ctl b || among b [34,39,38,47,60,62,92,96]else bif kd==5 then odd b else false
theorem qyx(b:UInt8):qee 3 b=!(among b qgv):=rfl
theorem q3v(b:UInt8):qee 4 b=(ctl b || among b [34,39,38,47,60,62,92,96]):=rfl
theorem q3u(b:UInt8):qee 5 b=(ctl b || among b [34,39,38,47,60,62,92]):=by
 show odd b=_;unfold odd ctl;rw[Bool.or_assoc]
theorem qyy(b:UInt8):qee 1 b=false:=rfl
theorem qvw(b:UInt8)(h:qbl b=true):qee 3 b=false:=by rw[qyx,<-qvd,h];rfl
theorem qyw(b:UInt8)(h:qea b=true):qee 3 b=false:=by rw[qyx,<-qvd,h];simp
theorem q17(b:UInt8)(h:among b [45,46,95,126,47,63,35,91,93,64,33,36,40,41,42,43,44,59,61]=true):qee 3 b=false:=by rw[qyx,<-qvd,h];simp
theorem q6f(b:UInt8)(h1:qbl b=false)(h2:qea b=false)(h:among b [45,46,95,126,47,63,35,91,93,64,33,36,40,41,42,43,44,59,61]=false):qee 3 b=true:=by rw[qyx,<-qvd,h,h1,h2];rfl
theorem zef(b:UInt8)(h:b.toNat<32):ctl b=true:=by simp[ctl,h]
theorem zab(b:UInt8)(h:b.toNat=127):ctl b=true:=by simp[ctl,h]
theorem zaa(b:UInt8)(h:¬b.toNat<32)(h':¬b.toNat=127):ctl b=false:=by simp[ctl,h,h']
end Pl
theorem qvf(b:UInt8)(w:World)(ht:Tabs w) :
  zC 143 #[zI 3,zJ b.toNat] w (zQ (.bool (qee 3 b)) w):=by
 have c0:w.cell? (zO 9 21)=some _:=ht.2.2 21 _ rfl;have c1:w.cell? (zO 9 22)=some _:=ht.2.2 22 _ rfl;have c2:w.cell? (zO 9 23)=some (.string ⟨#[45,46,95,126,47,63,35,91,93,64,33,36,40,41,42,43,44,59,61]⟩):=ht.2.2 23 _ rfl;clear ht;by_cases h1:qbl b=true
 ·have HV:Hid (qee 3 b=false):=qvw b h1
  go_enter func143,ntmps143
  go_wp2_with (first|(go_at_call 132;refine cm (qby b _) ?_)|(go_at_call 102;refine cm (qde b _) ?_))
  go_ret
  exact⟨qas (by rw[HV.out]),rfl⟩
 have h1:qbl b=false:=ye.2 h1;by_cases h2:qea b=true
 ·have HV:Hid (qee 3 b=false):=qyw b h2
  go_enter func143,ntmps143
  go_wp2_with (first|(go_at_call 132;refine cm (qby b _) ?_)|(go_at_call 102;refine cm (qde b _) ?_))
  go_ret
  exact⟨qas (by rw[HV.out]),rfl⟩
 have h2:qea b=false:=ye.2 h2;by_cases hp:among b [45,46,95,126,47,63,35,91,93,64,33,36,40,41,42,43,44,59,61]=true
 ·have HV:Hid (qee 3 b=false):=q17 b hp
  go_enter func143,ntmps143
  go_wp2_with (first|(go_at_call 132;refine cm (qby b _) ?_)|(go_at_call 102;refine cm (qde b _) ?_)|(go_at_call 130;refine(qgw b _ [45,46,95,126,47,63,35,91,93,64,33,36,40,41,42,43,44,59,61] _ rfl hp).mono ?_;rintro e w' ⟨x,hx,rfl,rfl⟩))
  go_ret
  exact⟨qas (by rw[HV.out];simp;omega),rfl⟩
 have hp:among b [45,46,95,126,47,63,35,91,93,64,33,36,40,41,42,43,44,59,61]=false:=ye.2 hp;have HV:Hid (qee 3 b=true):=q6f b h1 h2 hp;go_enter func143,ntmps143
 go_wp2_with (first|(go_at_call 132;refine cm (qby b _) ?_)|(go_at_call 102;refine cm (qde b _) ?_)|(go_at_call 130;refine cm (qgd b _ [45,46,95,126,47,63,35,91,93,64,33,36,40,41,42,43,44,59,61] _ rfl hp) ?_))
 go_ret
 exact⟨qas (by rw[HV.out]),rfl⟩
theorem q1g(b:UInt8)(w:World)(ht:Tabs w) :
  zC 143 #[zI 1,zJ b.toNat] w (zQ (.bool (qee 1 b)) w):=by
 have c0:w.cell? (zO 9 7)=some _:=ht.2.2 7 _ rfl;have c1:w.cell? (zO 9 8)=some _:=ht.2.2 8 _ rfl;have c2:w.cell? (zO 9 9)=some _:=ht.2.2 9 _ rfl;clear ht;by_cases h1:b.toNat<32
 ·have HV:Hid (qee 1 b=false):=qyy b
  go_enter func143,ntmps143
  go_wp2_with (first|fail)
  go_ret
  exact⟨qas (by rw[HV.out]),rfl⟩
 by_cases h2:b.toNat=127
 ·have HV:Hid (qee 1 b=false):=qyy b
  have h2:((b.toNat:Int)==127)=true:=yF.2 (by omega);go_enter func143,ntmps143
  go_wp2_with (first|fail)
  go_ret
  exact⟨qas (by rw[HV.out]),rfl⟩
 have ha:Hid (ctl b=false):=zaa b h1 h2;have h2:((b.toNat:Int)==127)=false:=yf.2 (by omega);have hp:among b []=false:=rfl;have HV:Hid (qee 1 b=false):=qyy b;go_enter func143,ntmps143
 go_wp2_with (first|(go_at_call 130;refine cm (qgd b _ [] _ rfl hp) ?_))
 go_ret
 exact⟨qas (by rw[HV.out]),rfl⟩
theorem qxu(b:UInt8)(w:World)(ht:Tabs w) :
  zC 143 #[zI 4,zJ b.toNat] w (zQ (.bool (qee 4 b)) w):=by
 have c0:w.cell? (zO 9 28)=some _:=ht.2.2 28 _ rfl;have c1:w.cell? (zO 9 29)=some _:=ht.2.2 29 _ rfl;have c2:w.cell? (zO 9 30)=some _:=ht.2.2 30 _ rfl;clear ht;by_cases h1:b.toNat<32
 ·have HV:Hid (qee 4 b=true):=by show _=_;rw[q3v,zef b h1];rfl
  go_enter func143,ntmps143
  go_wp2_with (first|fail)
  go_ret
  exact⟨qas (by rw[HV.out]),rfl⟩
 by_cases h2:b.toNat=127
 ·have HV:Hid (qee 4 b=true):=by show _=_;rw[q3v,zab b h2];rfl
  have h2:((b.toNat:Int)==127)=true:=yF.2 (by omega);go_enter func143,ntmps143
  go_wp2_with (first|fail)
  go_ret
  exact⟨qas (by rw[HV.out]),rfl⟩
 have ha:Hid (ctl b=false):=zaa b h1 h2;have h2:((b.toNat:Int)==127)=false:=yf.2 (by omega);by_cases hp:among b [34,39,38,47,60,62,92,96]=true
 ·have HV:Hid (qee 4 b=true):=by show _=_;rw[q3v,ha.out,hp];rfl
  go_enter func143,ntmps143
  go_wp2_with (first|(go_at_call 130;refine(qgw b _ [34,39,38,47,60,62,92,96] _ rfl hp).mono ?_;rintro e w' ⟨x,hx,rfl,rfl⟩))
  go_ret
  exact⟨qas (by rw[HV.out]),rfl⟩
 ·have hp:among b [34,39,38,47,60,62,92,96]=false:=ye.2 hp
  have HV:Hid (qee 4 b=false):=by show _=_;rw[q3v,ha.out,hp];rfl
  go_enter func143,ntmps143
  go_wp2_with (first|(go_at_call 130;refine cm (qgd b _ [34,39,38,47,60,62,92,96] _ rfl hp) ?_))
  go_ret
  exact⟨qas (by rw[HV.out]),rfl⟩
theorem qxv(b:UInt8)(w:World)(ht:Tabs w) :
  zC 143 #[zI 5,zJ b.toNat] w (zQ (.bool (qee 5 b)) w):=by
 have c0:w.cell? (zO 9 35)=some _:=ht.2.2 35 _ rfl;have c1:w.cell? (zO 9 36)=some _:=ht.2.2 36 _ rfl;have c2:w.cell? (zO 9 37)=some _:=ht.2.2 37 _ rfl;clear ht;by_cases h1:b.toNat<32
 ·have HV:Hid (qee 5 b=true):=by show _=_;rw[q3u,zef b h1];rfl
  go_enter func143,ntmps143
  go_wp2_with (first|fail)
  go_ret
  exact⟨qas (by rw[HV.out]),rfl⟩
 by_cases h2:b.toNat=127
 ·have HV:Hid (qee 5 b=true):=by show _=_;rw[q3u,zab b h2];rfl
  have h2:((b.toNat:Int)==127)=true:=yF.2 (by omega);go_enter func143,ntmps143
  go_wp2_with (first|fail)
  go_ret
  exact⟨qas (by rw[HV.out]),rfl⟩
 have ha:Hid (ctl b=false):=zaa b h1 h2;have h2:((b.toNat:Int)==127)=false:=yf.2 (by omega);by_cases hp:among b [34,39,38,47,60,62,92]=true
 ·have HV:Hid (qee 5 b=true):=by show _=_;rw[q3u,ha.out,hp];rfl
  go_enter func143,ntmps143
  go_wp2_with (first|(go_at_call 130;refine(qgw b _ [34,39,38,47,60,62,92] _ rfl hp).mono ?_;rintro e w' ⟨x,hx,rfl,rfl⟩))
  go_ret
  exact⟨qas (by rw[HV.out]),rfl⟩
 ·have hp:among b [34,39,38,47,60,62,92]=false:=ye.2 hp
  have HV:Hid (qee 5 b=false):=by show _=_;rw[q3u,ha.out,hp];rfl
  go_enter func143,ntmps143
  go_wp2_with (first|(go_at_call 130;refine cm (qgd b _ [34,39,38,47,60,62,92] _ rfl hp) ?_))
  go_ret
  exact⟨qas (by rw[HV.out]),rfl⟩
namespace Pl
open Go.Lib (decodeL decodeN encodeRune)
theorem qrd(s:zT)(pos:Nat):Utf8.decode s pos=decodeL (s.data.toList.drop pos):=by
 rw[Lib.decode_N s pos,decodeL_N];simp[List.getD_eq_getElem?_getD,List.getElem?_drop]
theorem zal(l:zU)(ha:l≠[]):qd3 l=encodeRune (if((decodeL l).1:Int)=0 then 65533 else((decodeL l).1:Int))++qd3 (l.drop (decodeL l).2):=by
 by_cases hb:(decodeL l).1=65533/\(decodeL l).2=1
 ·have hc:qen l=0:=by unfold qen bad;rw[if_neg ha];simp[hb.1,hb.2]
  rw[qy1 l ha (.inl hc),if_neg (by omega),hb.1,hb.2];rfl
 have hc:qen l=(decodeL l).2:=by
  unfold qen bad;rw[if_neg ha,if_neg];simpa using hb
 have hw:=Lib.decodeL_width l;have he:=Lib.encode_decode l ha hb
 match l,ha with
 |b::r,_=>
   by_cases h0:b=0
   ·have hd:decodeL (b::r)=(b.toNat,1):=Lib.decodeL_ascii b r (by rw[h0];decide)
    rw[qy1 (b::r) (by simp) (.inr (by rw[h0];rfl)),hd];simp[h0];rfl
   ·have hr:(decodeL (b::r)).1≠0:=by
     intro q;rw[q]at he;have Ha:=yE List.length he;have Hb:min (decodeL (b::r)).2 (r.length+1)=1:=by
      rw[yP]at Ha;exact Ha.symm
     have Hc:=Lib.decodeL_le (b::r) (by simp);simp only[yK]at Hc;have h1:(decodeL (b::r)).2=1:=by omega
     rw[h1]at he;have:encodeRune ((0:Nat):Int)=[0]:=by decide
     rw[this]at he;simp at he;exact h0 he.symm
    rw[q6i (b::r) (by simp) (by rw[hc];rintro(q|q);omega;simp at q;exact h0 q),hc,if_neg (by omega),he]
theorem q6h(s:zT)(pos:Nat)(h:pos<s.size):qd3 (s.data.toList.drop pos)=encodeRune (if((Utf8.decode s pos).1:Int)=0 then 65533 else((Utf8.decode s pos).1:Int))++qd3 (s.data.toList.drop (pos+(Utf8.decode s pos).2)):=by
 rw[qrd,zal _ (by rw[qj6 s pos h];simp),yD]
end Pl
theorem zd4(r:Int):(Lib.runeCells r).length<=4:=(Lib.runeCells_le r).2
theorem qte(w:World):(w.alloc (Obj.cells #[Value.pointer none,Value.slice none 0 0] 153)).heap[w.heap.size]?=zK #[.pointer none,zN] 153:=by
 show(w.heap.push _)[w.heap.size]?=_;simp
theorem qy2(s:zT)(w:World)(hs:s.size<=100000000) :
  zC 99 #[.string s] w (zR (zV (qd3 s.data.toList)) w):=by
 go_enter func99,ntmps99
 go_wp2_with fail
 refine(Builder_Grow_fresh w.heap.size w.heap.size s.size _ (yg _) (qte w) (by simp) (by omega)).mono ?_;rintro e W1 ⟨rfl,Hg,he⟩;have Hi:w.heap.size+1<=W1.heap.size:=by have:=he.size;simpa using this
 have hc:zW w W1:=((xL _ w).alloc (yg _) _).trans he;go_wp2
 go_loopw [] (fun wr=>∃(pos:Nat) (acc:zU),Lib.IsBuilderF 153 5 w.heap.size w.heap.size (Lib.byteCells acc) wr/\wr.heap[W1.heap.size]?=some (.stringIter s pos)/\zW w wr/\acc++qd3 (s.data.toList.drop pos)=qd3 s.data.toList/\acc.length<=4*pos/\pos<=s.size) (fun wr=>s.size - wr.iterPos (W1.heap.size))
 case atStart=>
  refine⟨0,[],(Lib.IsBuilderF.of (Or.inr Hg)).alloc _,?_,hc.alloc (by omega) _,rfl,by simp,by omega⟩;exact World.iter_heap W1 s 0
 case round=>
  obtain⟨pos,acc,hI,hit,He,Ha,hj,Hj⟩:=hrel;have HA:Hid (acc++qd3 (s.data.toList.drop pos)=qd3 s.data.toList):=Ha;clear Ha;have hk:W1.heap.size<wr.heap.size:=(ya.1 hit).1;by_cases hp:pos<s.size
  ·have hi:∀ty,(Instr.next (zP W1.heap.size) true ty).run prog wr=_:=fun ty=>Lib.run_next_any_at wr W1.heap.size s pos ty hit hp
   have Hk:1<=(Utf8.decode s pos).2:=Lib.decode_width_pos s pos hp;have hl:=decode_le s pos;have hf:pos+(Utf8.decode s pos).2<=s.size:=by
    have:=Lib.decodeL_le (s.data.toList.drop pos) (by rw[qj6 s pos hp];simp);rw[<-qrd]at this;rw[yM,q84]at this;omega
   have Hf:Hid (qd3 (s.data.toList.drop pos)=_):=q6h s pos hp;have hg:=hI.iterAt hit (pos+(Utf8.decode s pos).2);have ha:=Lib.iterAt_heap wr W1.heap.size s pos (pos+(Utf8.decode s pos).2) hit;have hb:=Lib.below_iterAt He (k:=W1.heap.size) (by omega) s (pos+(Utf8.decode s pos).2);have Hb:w.heap.size<=(wr.iterAt W1.heap.size s (pos+(Utf8.decode s pos).2)).heap.size:=by rw[Lib.iterAt_size];omega
   by_cases h0:((Utf8.decode s pos).1:Int)=0
   ·have H0:Hid (((Utf8.decode s pos).1:Int)=0):=h0
    have h1:(((Utf8.decode s pos).1:Int)==0)=true:=yF.2 h0;clear h0;go_wp2_with (go_at_call 140;refine(Builder_WriteRune_k w.heap.size w.heap.size _ 65533 (by omega) (by omega) _ hg (by rw[Lib.byteCells_length];omega) Hb).mono ?_)
    rintro e W2 ⟨rfl,h2,b2,k2⟩;go_wp2
    go_roundw
    case rel=>
     refine⟨pos+(Utf8.decode s pos).2,acc++Lib.encodeRune 65533,?_,k2.iter ha (by omega),hb.trans b2,?_,?_,hf⟩
     ·rw[Lib.byteCells_append,Lib.byteCells_encodeRune];exact Or.inr h2
     ·rw[<-HA.out,Hf.out,if_pos H0.out,yq]
     ·have Hc:=zd4 65533
      rw[Lib.runeCells_length]at Hc;simp only[yJ];omega
    case measure=>
     simp only[World.iterPos,k2.iter ha (by omega),hit];omega
   ·have H0:Hid (¬((Utf8.decode s pos).1:Int)=0):=h0
    have h1:(((Utf8.decode s pos).1:Int)==0)=false:=yf.2 h0;clear h0;go_wp2_with (go_at_call 140;refine(Builder_WriteRune_k w.heap.size w.heap.size _ _ (by omega) (by omega) _ hg (by rw[Lib.byteCells_length];omega) Hb).mono ?_)
    rintro e W2 ⟨rfl,h2,b2,k2⟩;go_wp2
    go_roundw
    case rel=>
     refine⟨pos+(Utf8.decode s pos).2,acc++Lib.encodeRune ((Utf8.decode s pos).1:Int),?_,k2.iter ha (by omega),hb.trans b2,?_,?_,hf⟩
     ·rw[Lib.byteCells_append,Lib.byteCells_encodeRune];exact Or.inr h2
     ·rw[<-HA.out,Hf.out,if_neg H0.out,yq]
     ·have Hc:=zd4 ((Utf8.decode s pos).1:Int)
      rw[Lib.runeCells_length]at Hc;simp only[yJ];omega
    case measure=>
     simp only[World.iterPos,k2.iter ha (by omega),hit];omega
  ·have hi:∀ty,(Instr.next (zP W1.heap.size) true ty).run prog wr=_:=fun ty=>Lib.run_next_end_at wr W1.heap.size s pos ty hit hp
   go_wp2_with (go_at_call 61;refine(Builder_String_any_k w.heap.size w.heap.size acc _ hI (by omega)).mono ?_)
   rintro e W2 ⟨rfl,_,b2,_⟩;go_wp2
   go_ret
   have e:=HA.out;rw[qvt s pos hp,zak,yw]at e;exact⟨qcl (by rw[<-e]),He.trans b2⟩
namespace Pl
def qhk(kd:Int)(b:UInt8):zU:=
 bif kd==3 then[37]++two b q67 else bif kd==4 then[92,120]++two b qgh else bif kd==5 then 92::(qme (two b qgh)++[32])else[]
theorem zgf(b:UInt8):qhk 3 b=[37]++two b q67:=rfl
theorem zge(b:UInt8):qhk 4 b=[92,120]++two b qgh:=rfl
theorem zgd(b:UInt8):qhk 5 b=92::(qme (two b qgh)++[32]):=rfl
theorem zgu(b:UInt8)(h1:b.toNat / 16<16)(h2:b.toNat % 16<16):two b q67=[(ByteArray.mk #[48,49,50,51,52,53,54,55,56,57,65,66,67,68,69,70])[b.toNat / 16]'h1,(ByteArray.mk #[48,49,50,51,52,53,54,55,56,57,65,66,67,68,69,70])[b.toNat % 16]'h2]:=
 zd0 b ⟨#[48,49,50,51,52,53,54,55,56,57,65,66,67,68,69,70]⟩ h1 h2
theorem zdz(b:UInt8)(h1:b.toNat / 16<16)(h2:b.toNat % 16<16):two b qgh=[(ByteArray.mk #[48,49,50,51,52,53,54,55,56,57,97,98,99,100,101,102])[b.toNat / 16]'h1,(ByteArray.mk #[48,49,50,51,52,53,54,55,56,57,97,98,99,100,101,102])[b.toNat % 16]'h2]:=
 zd0 b ⟨#[48,49,50,51,52,53,54,55,56,57,97,98,99,100,101,102]⟩ h1 h2
theorem zes(b:UInt8)(h:16<=b.toNat):qme (two b qgh)=two b qgh:=by
 have hh:(!(decide (16<=b.toNat)) || (qme (two b qgh)==two b qgh))=true:=qrs (fun b=>!(decide (16<=b.toNat)) || (qme (two b qgh)==two b qgh)) (by decide +kernel) b;simpa [h]using hh
theorem zer(b:UInt8)(h:b.toNat<16):qme (two b qgh)=[(two b qgh).getD 1 0]:=by
 have hh:(!(decide (b.toNat<16)) || (qme (two b qgh)==[(two b qgh).getD 1 0]))=true:=qrs (fun b=>!(decide (b.toNat<16)) || (qme (two b qgh)==[(two b qgh).getD 1 0])) (by decide +kernel) b;simpa [h]using hh
theorem q6g(kd:Int)(b:UInt8):(qhk kd b).length<=6:=by
 have:(qme (two b qgh)).length<=2:=by
  unfold qme;apply qkx<;>simp[two]
 have h3:(92::(qme (two b qgh)++[32])).length<=6:=by
  rw[yK,yJ,List.length_singleton];omega
 unfold qhk
 repeat' apply qkx
 ·simp[two]
 ·simp[two]
 ·exact h3
 ·simp
end Pl
theorem qkz(acc x y:zU):Lib.byteCells acc++Lib.byteCells x++Lib.byteCells y=Lib.byteCells (acc++(x++y)):=by
 rw[Lib.byteCells_append,Lib.byteCells_append,yq]
theorem qpj(B bl:Nat)(acc:zU)(b:UInt8)(w:World)(ht:Tabs w)(hB:9<B)(hI:Lib.IsBuilderF 153 5 B bl (Lib.byteCells acc) w)(hl:acc.length<=1000000000)(hc:B<=w.heap.size) :
  zC 144 #[zP bl,zI 3,zJ b.toNat] w fun e w'=>e=.returned (.tuple #[])/\Lib.IsBuilderF 153 5 B bl (Lib.byteCells (acc++qhk 3 b)) w'/\Below B w w':=by
 have hb:b.toNat<256:=UInt8.toNat_lt b;have c3:w.cell? (zO 9 24)=some (.string ⟨#[37]⟩):=ht.2.2 24 _ rfl;have c4:w.cell? (zO 9 25)=some (.string ⟨#[48,49,50,51,52,53,54,55,56,57,65,66,67,68,69,70]⟩):=ht.2.2 25 _ rfl;have HT:Hid (two b _=_):=zgu b (by omega) (by omega);go_enter func144,ntmps144
 go_wp2_with fail
 refine(Builder_WriteString_k B bl _ ⟨#[37]⟩ _ hI (by rw[Lib.byteCells_length];show _+1<=_;omega) hc).mono ?_;rintro e w1 ⟨rfl,h1,b1,_⟩;have Ha:=ht.kept b1 hB;have z1:=b1.size;have c5:w1.cell? (zO 9 26)=some (.bool false):=Ha.2.2 26 _ rfl;have ha:Hid ((Lib.byteCells acc++Lib.strCells ⟨#[37]⟩).length=acc.length+1):=by show _=_;simp[Lib.byteCells_length,Lib.strCells]
 by_cases hq:16<=b.toNat
 ·go_wp2_with fail
  refine(Builder_WriteByte_k B bl _ _ _ (Or.inr h1) (by rw[ha.out];omega) (by omega)).mono ?_;rintro e w2 ⟨rfl,h2,b2,_⟩;have z2:=b2.size;go_wp2_with fail
  refine(Builder_WriteByte_k B bl _ _ _ (Or.inr h2) (by rw[yJ,ha.out];simp;omega) (by omega)).mono ?_;rintro e w3 ⟨rfl,h3,b3,_⟩;have z3:=b3.size;have Hb:=(Ha.kept b2 hB).kept b3 hB;have c6:w3.cell? (zO 9 27)=some (zS):=Hb.2.2 27 _ rfl;go_wp2_with fail
  refine(Builder_WriteString_k B bl _ ⟨#[]⟩ _ (Or.inr h3) (by simp only[yJ,ha.out];show _+0<=_;simp;omega) (by omega)).mono ?_;rintro e w4 ⟨rfl,h4,b4,_⟩;go_wp2_with fail
  go_end0
  refine⟨rfl,?_,((b1.trans b2).trans b3).trans b4⟩;rw[zgf,HT.out,<-yw [_,_],<-qkz];exact Or.inr (by simpa [Lib.byteCells,Lib.strCells]using h4)
 ·go_wp2_with fail
  refine(Builder_WriteByte_k B bl _ _ _ (Or.inr h1) (by rw[ha.out];omega) (by omega)).mono ?_;rintro e w2 ⟨rfl,h2,b2,_⟩;have z2:=b2.size;go_wp2_with fail
  refine(Builder_WriteByte_k B bl _ _ _ (Or.inr h2) (by rw[yJ,ha.out];simp;omega) (by omega)).mono ?_;rintro e w3 ⟨rfl,h3,b3,_⟩;have z3:=b3.size;have Hb:=(Ha.kept b2 hB).kept b3 hB;have c6:w3.cell? (zO 9 27)=some (zS):=Hb.2.2 27 _ rfl;go_wp2_with fail
  refine(Builder_WriteString_k B bl _ ⟨#[]⟩ _ (Or.inr h3) (by simp only[yJ,ha.out];show _+0<=_;simp;omega) (by omega)).mono ?_;rintro e w4 ⟨rfl,h4,b4,_⟩;go_wp2_with fail
  go_end0
  refine⟨rfl,?_,((b1.trans b2).trans b3).trans b4⟩;rw[zgf,HT.out,<-yw [_,_],<-qkz];exact Or.inr (by simpa [Lib.byteCells,Lib.strCells]using h4)
theorem qry(B bl:Nat)(acc:zU)(b:UInt8)(w:World)(ht:Tabs w)(hB:9<B)(hI:Lib.IsBuilderF 153 5 B bl (Lib.byteCells acc) w)(hl:acc.length<=1000000000)(hc:B<=w.heap.size) :
  zC 144 #[zP bl,zI 4,zJ b.toNat] w fun e w'=>e=.returned (.tuple #[])/\Lib.IsBuilderF 153 5 B bl (Lib.byteCells (acc++qhk 4 b)) w'/\Below B w w':=by
 have hb:b.toNat<256:=UInt8.toNat_lt b;have c3:w.cell? (zO 9 31)=some (.string ⟨#[92,120]⟩):=ht.2.2 31 _ rfl;have c4:w.cell? (zO 9 32)=some (.string ⟨#[48,49,50,51,52,53,54,55,56,57,97,98,99,100,101,102]⟩):=ht.2.2 32 _ rfl;have HT:Hid (two b _=_):=zdz b (by omega) (by omega);go_enter func144,ntmps144
 go_wp2_with fail
 refine(Builder_WriteString_k B bl _ ⟨#[92,120]⟩ _ hI (by rw[Lib.byteCells_length];show _+2<=_;omega) hc).mono ?_;rintro e w1 ⟨rfl,h1,b1,_⟩;have Ha:=ht.kept b1 hB;have z1:=b1.size;have c5:w1.cell? (zO 9 33)=some (.bool false):=Ha.2.2 33 _ rfl;have ha:Hid ((Lib.byteCells acc++Lib.strCells ⟨#[92,120]⟩).length=acc.length+2):=by show _=_;simp[Lib.byteCells_length,Lib.strCells]
 by_cases hq:16<=b.toNat
 ·go_wp2_with fail
  refine(Builder_WriteByte_k B bl _ _ _ (Or.inr h1) (by rw[ha.out];omega) (by omega)).mono ?_;rintro e w2 ⟨rfl,h2,b2,_⟩;have z2:=b2.size;go_wp2_with fail
  refine(Builder_WriteByte_k B bl _ _ _ (Or.inr h2) (by rw[yJ,ha.out];simp;omega) (by omega)).mono ?_;rintro e w3 ⟨rfl,h3,b3,_⟩;have z3:=b3.size;have Hb:=(Ha.kept b2 hB).kept b3 hB;have c6:w3.cell? (zO 9 34)=some (zS):=Hb.2.2 34 _ rfl;go_wp2_with fail
  refine(Builder_WriteString_k B bl _ ⟨#[]⟩ _ (Or.inr h3) (by simp only[yJ,ha.out];show _+0<=_;simp;omega) (by omega)).mono ?_;rintro e w4 ⟨rfl,h4,b4,_⟩;go_wp2_with fail
  go_end0
  refine⟨rfl,?_,((b1.trans b2).trans b3).trans b4⟩;rw[zge,HT.out,<-yw [_,_],<-qkz];exact Or.inr (by simpa [Lib.byteCells,Lib.strCells]using h4)
 ·go_wp2_with fail
  refine(Builder_WriteByte_k B bl _ _ _ (Or.inr h1) (by rw[ha.out];omega) (by omega)).mono ?_;rintro e w2 ⟨rfl,h2,b2,_⟩;have z2:=b2.size;go_wp2_with fail
  refine(Builder_WriteByte_k B bl _ _ _ (Or.inr h2) (by rw[yJ,ha.out];simp;omega) (by omega)).mono ?_;rintro e w3 ⟨rfl,h3,b3,_⟩;have z3:=b3.size;have Hb:=(Ha.kept b2 hB).kept b3 hB;have c6:w3.cell? (zO 9 34)=some (zS):=Hb.2.2 34 _ rfl;go_wp2_with fail
  refine(Builder_WriteString_k B bl _ ⟨#[]⟩ _ (Or.inr h3) (by simp only[yJ,ha.out];show _+0<=_;simp;omega) (by omega)).mono ?_;rintro e w4 ⟨rfl,h4,b4,_⟩;go_wp2_with fail
  go_end0
  refine⟨rfl,?_,((b1.trans b2).trans b3).trans b4⟩;rw[zge,HT.out,<-yw [_,_],<-qkz];exact Or.inr (by simpa [Lib.byteCells,Lib.strCells]using h4)
theorem qrz(B bl:Nat)(acc:zU)(b:UInt8)(w:World)(ht:Tabs w)(hB:9<B)(hI:Lib.IsBuilderF 153 5 B bl (Lib.byteCells acc) w)(hl:acc.length<=1000000000)(hc:B<=w.heap.size) :
  zC 144 #[zP bl,zI 5,zJ b.toNat] w fun e w'=>e=.returned (.tuple #[])/\Lib.IsBuilderF 153 5 B bl (Lib.byteCells (acc++qhk 5 b)) w'/\Below B w w':=by
 have hb:b.toNat<256:=UInt8.toNat_lt b;have c3:w.cell? (zO 9 38)=some (.string ⟨#[92]⟩):=ht.2.2 38 _ rfl;have c4:w.cell? (zO 9 39)=some (.string ⟨#[48,49,50,51,52,53,54,55,56,57,97,98,99,100,101,102]⟩):=ht.2.2 39 _ rfl;have HT:Hid (two b _=_):=zdz b (by omega) (by omega);go_enter func144,ntmps144
 go_wp2_with fail
 refine(Builder_WriteString_k B bl _ ⟨#[92]⟩ _ hI (by rw[Lib.byteCells_length];show _+1<=_;omega) hc).mono ?_;rintro e w1 ⟨rfl,h1,b1,_⟩;have Ha:=ht.kept b1 hB;have z1:=b1.size;have c5:w1.cell? (zO 9 40)=some (.bool true):=Ha.2.2 40 _ rfl;have ha:Hid ((Lib.byteCells acc++Lib.strCells ⟨#[92]⟩).length=acc.length+1):=by show _=_;simp[Lib.byteCells_length,Lib.strCells]
 by_cases hq:16<=b.toNat
 ·have HC:Hid (qhk 5 b=92::(two b qgh++[32])):=by show _=_;rw[zgd,zes b hq]
  go_wp2_with fail
  refine(Builder_WriteByte_k B bl _ _ _ (Or.inr h1) (by rw[ha.out];omega) (by omega)).mono ?_;rintro e w2 ⟨rfl,h2,b2,_⟩;have z2:=b2.size;go_wp2_with fail
  refine(Builder_WriteByte_k B bl _ _ _ (Or.inr h2) (by rw[yJ,ha.out];simp;omega) (by omega)).mono ?_;rintro e w3 ⟨rfl,h3,b3,_⟩;have z3:=b3.size;have Hb:=(Ha.kept b2 hB).kept b3 hB;have c6:w3.cell? (zO 9 41)=some (.string ⟨#[32]⟩):=Hb.2.2 41 _ rfl;go_wp2_with fail
  refine(Builder_WriteString_k B bl _ ⟨#[32]⟩ _ (Or.inr h3) (by simp only[yJ,ha.out];show _+1<=_;simp;omega) (by omega)).mono ?_;rintro e w4 ⟨rfl,h4,b4,_⟩;go_wp2_with fail
  go_end0
  refine⟨rfl,?_,((b1.trans b2).trans b3).trans b4⟩;rw[HC.out,HT.out];exact Or.inr (by simpa [Lib.byteCells,Lib.strCells]using h4)
 ·have HC:Hid (qhk 5 b=92::([(two b qgh).getD 1 0]++[32])):=by show _=_;rw[zgd,zer b (by omega)]
  go_wp2_with fail
  refine(Builder_WriteByte_k B bl _ _ _ (Or.inr h1) (by rw[ha.out];omega) (by omega)).mono ?_;rintro e w3 ⟨rfl,h3,b3,_⟩;have z3:=b3.size;have Hb:=Ha.kept b3 hB;have c6:w3.cell? (zO 9 41)=some (.string ⟨#[32]⟩):=Hb.2.2 41 _ rfl;go_wp2_with fail
  refine(Builder_WriteString_k B bl _ ⟨#[32]⟩ _ (Or.inr h3) (by simp only[yJ,ha.out];show _+1<=_;simp;omega) (by omega)).mono ?_;rintro e w4 ⟨rfl,h4,b4,_⟩;go_wp2_with fail
  go_end0
  refine⟨rfl,?_,(b1.trans b3).trans b4⟩;rw[HC.out,HT.out];exact Or.inr (by simpa [Lib.byteCells,Lib.strCells]using h4)
namespace Pl
def qgi(kd:Int)(l:zU):zU:=
 bif kd==1 then qjh l else bif kd==3 then qjy l else bif kd==4 then qep l else qwo l
theorem zf6(kd:Int):qgi kd []=[]:=by
 unfold qgi;cases kd==1<;>cases kd==3<;>cases kd==4<;>rfl
theorem q9n(kd:Int)(l:zU)(h1:kd≠1)(h4:kd≠4):qey kd l=([],[]):=by
 have e1:((1:Int)==kd)=false:=yf.2 (by omega);have e4:((4:Int)==kd)=false:=yf.2 (by omega);simp[qey,qbm,fits,List.find?,e1,e4]
theorem zg2(b:UInt8)(l:zU):qey 1 (b::l)=if b=38 then([38],[38,97,109,112,59])else if b=60 then([60],[38,108,116,59])else if b=62 then([62],[38,103,116,59])else if b=34 then([34],[38,113,117,111,116,59])else if b=39 then([39],[38,35,51,57,59])else([],[]):=by
 have e:∀x:UInt8,List.isPrefixOf [x] (b::l)=(x==b):=by intro x;simp[List.isPrefixOf]
 have f:∀x:UInt8,(x==b)=decide (b=x):=by
  intro x;rw[xh,yF,yN];exact eq_comm
 have e4:((4:Int)==1)=false:=rfl;unfold qey qbm fits;simp only[List.find?,e,e4,f,Bool.false_and,beq_self_eq_true,Bool.true_and];by_cases h1:b=38
 ·simp[h1]
 by_cases h2:b=60
 ·simp[h2]
 by_cases h3:b=62
 ·simp[h3]
 by_cases h5:b=34
 ·simp[h5]
 by_cases h6:b=39
 ·simp[h6]
 simp[h1,h2,h3,h5,h6]
theorem qwh(b:UInt8):qp3 b=if b=38 then[38,97,109,112,59]else if b=60 then[38,108,116,59]else if b=62 then[38,103,116,59]else if b=34 then[38,113,117,111,116,59]else if b=39 then[38,35,51,57,59]else[b]:=by
 have:=qrs (fun b=>decide (qp3 b=if b=38 then[38,97,109,112,59]else if b=60 then[38,108,116,59]else if b=62 then[38,103,116,59]else if b=34 then[38,113,117,111,116,59]else if b=39 then[38,35,51,57,59]else[b])) (by decide +kernel) b;simpa using this
theorem qqj:∀(p l:zU),List.isPrefixOf p l=decide (l.take p.length=p)
 |[],l=>by simp
 |a::p,[]=>by simp
 |a::p,b::l=>by
   have ih:=qqj p l;rw[List.isPrefixOf,ih,xh];simp only[yL,yF,yN,yK,xb,List.cons.injEq];constructor
   ·rintro⟨h,h'⟩;exact⟨h.symm,h'⟩
   ·rintro⟨h,h'⟩;exact⟨h.symm,h'⟩
theorem zg1(l:zU):qey 4 l=if l.take 3=[226,128,168]then([226,128,168],[92,117,50,48,50,56])else if l.take 3=[226,128,169]then([226,128,169],[92,117,50,48,50,57])else([],[]):=by
 have e1:((1:Int)==4)=false:=rfl;unfold qey qbm fits;simp only[List.find?,e1,qqj,Bool.false_and,beq_self_eq_true,Bool.true_and,yK,yQ];by_cases h1:l.take 3=[226,128,168]
 ·simp[h1]
 by_cases h2:l.take 3=[226,128,169]
 ·simp[h2]
 simp[h1,h2]
theorem esc4(b:UInt8):(odd b || ((b.toNat:Int)==96))=qee 4 b:=by
 have:=qrs (fun b=>(odd b || ((b.toNat:Int)==96))==qee 4 b) (by decide +kernel) b;simpa using this
theorem zc8(kd:Int)(hk:kd=1\/kd=3\/kd=4\/kd=5)(l f t:zU)(h:qey kd l=(f,t))(hf:f≠[]) :
  qgi kd l=t++qgi kd (l.drop f.length)/\f.length<=l.length/\t.length<=6*f.length:=by
 rcases hk with rfl|rfl|rfl|rfl
 ·match l with
  |[]=>
    have e:qey 1 []=([],[]):=by decide
    rw[e]at h;cases h;exact absurd rfl hf
  |b::l=>
    rw[zg2]at h;show qjh (b::l)=t++qjh _/\_;have e:qjh (b::l)=qp3 b++qjh l:=rfl;rw[e,qwh];by_cases h1:b=38
    ·rw[if_pos h1]at h |-;cases h;exact⟨rfl,by simp,by simp⟩
    by_cases h2:b=60
    ·rw[if_neg h1,if_pos h2]at h |-;cases h;exact⟨rfl,by simp,by simp⟩
    by_cases h3:b=62
    ·rw[if_neg h1,if_neg h2,if_pos h3]at h |-;cases h;exact⟨rfl,by simp,by simp⟩
    by_cases h4:b=34
    ·rw[if_neg h1,if_neg h2,if_neg h3,if_pos h4]at h |-;cases h;exact⟨rfl,by simp,by simp⟩
    by_cases h5:b=39
    ·rw[if_neg h1,if_neg h2,if_neg h3,if_neg h4,if_pos h5]at h |-;cases h;exact⟨rfl,by simp,by simp⟩
    rw[if_neg h1,if_neg h2,if_neg h3,if_neg h4,if_neg h5]at h;cases h;exact absurd rfl hf
 ·rw[q9n 3 l (by omega) (by omega)]at h;cases h;exact absurd rfl hf
 ·rw[zg1]at h
  show qep l=t++qep _/\_;have key:∀c d e:UInt8,l.take 3=[c,d,e]->∃r,l=c::d::e::r:=by
   intro c d e q
   match l,q with
   |x::y::z::r,q=>
     simp only[xb,List.take_zero,List.cons.injEq,and_true]at q;obtain⟨rfl,rfl,rfl⟩:=q;exact⟨r,rfl⟩
  by_cases h1:l.take 3=[226,128,168]
  ·rw[if_pos h1]at h;cases h
   obtain⟨r,rfl⟩:=key _ _ _ h1;refine⟨?_,by simp,by simp⟩;rw[qiu,if_neg (by decide),if_pos (show List.take 3 (226::128::168::r)=[226,128,168]from rfl)];rfl
  by_cases h2:l.take 3=[226,128,169]
  ·rw[if_neg h1,if_pos h2]at h;cases h
   obtain⟨r,rfl⟩:=key _ _ _ h2;refine⟨?_,by simp,by simp⟩;rw[qiu,if_neg (by decide),if_neg (by simp),if_pos (show List.take 3 (226::128::169::r)=[226,128,169]from rfl)];rfl
  rw[if_neg h1,if_neg h2]at h;cases h;exact absurd rfl hf
 ·rw[q9n 5 l (by omega) (by omega)]at h;cases h;exact absurd rfl hf
theorem zc9(kd:Int)(hk:kd=1\/kd=3\/kd=4\/kd=5)(b:UInt8)(l t:zU)(h:qey kd (b::l)=([],t)) :
  qgi kd (b::l)=(if qee kd b=true then qhk kd b else[b])++qgi kd l:=by
 rcases hk with rfl|rfl|rfl|rfl
 ·rw[zg2]at h
  show qjh (b::l)=_++qjh l;rw[qyy,if_neg (by simp)];have e:qjh (b::l)=qp3 b++qjh l:=rfl;rw[e,qwh];by_cases h1:b=38
  ·rw[if_pos h1]at h;cases h
  by_cases h2:b=60
  ·rw[if_neg h1,if_pos h2]at h;cases h
  by_cases h3:b=62
  ·rw[if_neg h1,if_neg h2,if_pos h3]at h;cases h
  by_cases h4:b=34
  ·rw[if_neg h1,if_neg h2,if_neg h3,if_pos h4]at h;cases h
  by_cases h5:b=39
  ·rw[if_neg h1,if_neg h2,if_neg h3,if_neg h4,if_pos h5]at h;cases h
  rw[if_neg h1,if_neg h2,if_neg h3,if_neg h4,if_neg h5]
 ·show qon b++qjy l=_++qjy l
  rw[qyx,zgf];by_cases h1:among b qgv=true
  ·rw[q5p h1,h1,if_neg (by simp)]
  ·have h1:among b qgv=false:=by simpa using h1
   rw[q81 h1,h1];rfl
 ·show qep (b::l)=_++qep l
  rw[qiu,esc4];by_cases h1:qee 4 b=true
  ·rw[if_pos h1,if_pos h1,zge]
  ·rw[zg1]at h
   by_cases h2:(b::l).take 3=[226,128,168]
   ·rw[if_pos h2]at h;cases h
   by_cases h3:(b::l).take 3=[226,128,169]
   ·rw[if_neg h2,if_pos h3]at h;cases h
   rw[if_neg h1,if_neg h1,if_neg h2,if_neg h3]
 ·show qp7 b++qwo l=_++qwo l
  rw[show qee 5 b=odd b from rfl,zgd];unfold qp7;cases odd b<;>rfl
end Pl
end Go.Proofs.YtfkhljmiehdgmaaGreatDoor
