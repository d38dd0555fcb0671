/-
  Steps of the proof.
-/
import Derived.Test.YtfkhljmiehdgmaaGreatDoorCuAG
set_option maxRecDepth 100000
set_option maxHeartbeats 40000000
namespace Go.Proofs.YtfkhljmiehdgmaaGreatDoor
open Go.RowKit Go.Proofs.Tryz Pl
theorem qbk(s p:zT)(l:zU)(w:World)(hp:p.data.toList=l) :
  zC 191 #[.string s,.string p] w (zQ (.bool (l.isPrefixOf s.data.toList)) w):=by
 refine(strings_HasPrefix s p w).mono ?_;rintro e w' ⟨rfl,rfl⟩;exact⟨qas (by rw[hp];rfl),rfl⟩
theorem qz8(kd:Int)(s:zT)(w:World)(ht:Tabs w) :
  zC 141 #[zI kd,.string s] w (zR (.tuple #[zV ((qey kd s.data.toList).1),zV ((qey kd s.data.toList).2)]) w):=by
 generalize ho:qey kd s.data.toList=o;have HO:Hid (qey kd s.data.toList=o):=ho;clear ho;have i0:∀w,(Instr.index 298 (.agg qez) (zI 0)).run prog w=.ok (.agg #[zI 1,.string ⟨#[38]⟩,.string ⟨#[38,97,109,112,59]⟩]) w:=fun _=>by kernel_rfl
 have i1:∀w,(Instr.index 298 (.agg qez) (zI 1)).run prog w=.ok (.agg #[zI 1,.string ⟨#[60]⟩,.string ⟨#[38,108,116,59]⟩]) w:=fun _=>by kernel_rfl
 have i2:∀w,(Instr.index 298 (.agg qez) (zI 2)).run prog w=.ok (.agg #[zI 1,.string ⟨#[62]⟩,.string ⟨#[38,103,116,59]⟩]) w:=fun _=>by kernel_rfl
 have i3:∀w,(Instr.index 298 (.agg qez) (zI 3)).run prog w=.ok (.agg #[zI 1,.string ⟨#[34]⟩,.string ⟨#[38,113,117,111,116,59]⟩]) w:=fun _=>by kernel_rfl
 have i4:∀w,(Instr.index 298 (.agg qez) (zI 4)).run prog w=.ok (.agg #[zI 1,.string ⟨#[39]⟩,.string ⟨#[38,35,51,57,59]⟩]) w:=fun _=>by kernel_rfl
 have i5:∀w,(Instr.index 298 (.agg qez) (zI 5)).run prog w=.ok (.agg #[zI 4,.string ⟨#[226,128,168]⟩,.string ⟨#[92,117,50,48,50,56]⟩]) w:=fun _=>by kernel_rfl
 have i6:∀w,(Instr.index 298 (.agg qez) (zI 6)).run prog w=.ok (.agg #[zI 4,.string ⟨#[226,128,169]⟩,.string ⟨#[92,117,50,48,50,57]⟩]) w:=fun _=>by kernel_rfl
 go_enter func141,ntmps141
 go_wp2_with (refine qib rfl 298 _ rfl 8 rfl qez _ ht.2.1 underlying298 rfl (by kernel_rfl) ?_)
 go_loopw [7,9] (fun _ i wr=>∃k:Nat,k<=7/\i=zI k/\(qbm.take k).find? (fits kd s.data.toList)=none/\zW w wr) (fun _ i _=>7 - (intOf i).toNat)
 case atStart=>exact⟨0,by omega,rfl,rfl,xM _ _⟩
 case round=>
  obtain⟨k,hk,rfl,hn,ha⟩:=hrel;have HN:Hid ((qbm.take k).find? (fits kd s.data.toList)=none):=hn;clear hn;have hz:=ha.size;rcases(show k=0\/k=1\/k=2\/k=3\/k=4\/k=5\/k=6\/k=7 by omega)with rfl|rfl|rfl|rfl|rfl|rfl|rfl|rfl
  ·by_cases hq:((1:Int)==kd)=true
   ·by_cases hp:List.isPrefixOf [38] s.data.toList=true
    ·have HV:Hid (o=([38],[38,97,109,112,59])):=by
      show _=_;rw[<-HO.out];exact qhf kd _ 0 _ rfl HN.out (by show((1:Int)==kd && List.isPrefixOf [38] _)=true;rw[hq,hp];rfl)
     go_wp2_with (go_at_call 191;refine(qbk s _ [38] _ rfl).mono ?_;rintro e w' ⟨rfl,rfl⟩)
     go_region
     go_wp2
     go_ret2
     exact⟨by rw[HV.out];rfl,by repeat(first|exact ha|exact ha.alloc hz _|apply Below.drew)⟩
    ·have hp:List.isPrefixOf [38] s.data.toList=false:=ye.2 hp
     have HV:Hid ((qbm.take (0+1)).find? (fits kd s.data.toList)=none):=
      qdd kd _ 0 _ rfl HN.out (by show((1:Int)==kd && List.isPrefixOf [38] _)=false;rw[hq,hp];rfl)
     go_wp2_with (go_at_call 191;refine(qbk s _ [38] _ rfl).mono ?_;rintro e w' ⟨rfl,rfl⟩)
     go_roundw
     case rel=>exact⟨1,by omega,rfl,HV.out,by repeat(first|exact ha|exact ha.alloc hz _|apply Below.drew)⟩
     case measure=>simp[intOf]
   ·have hq:((1:Int)==kd)=false:=by simpa using hq
    have HV:Hid ((qbm.take (0+1)).find? (fits kd s.data.toList)=none):=
     qdd kd _ 0 _ rfl HN.out (by show((1:Int)==kd && _)=false;rw[hq];rfl)
    go_wp2
    go_roundw
    case rel=>exact⟨1,by omega,rfl,HV.out,by repeat(first|exact ha|exact ha.alloc hz _|apply Below.drew)⟩
    case measure=>simp[intOf]
  ·by_cases hq:((1:Int)==kd)=true
   ·by_cases hp:List.isPrefixOf [60] s.data.toList=true
    ·have HV:Hid (o=([60],[38,108,116,59])):=by
      show _=_;rw[<-HO.out];exact qhf kd _ 1 _ rfl HN.out (by show((1:Int)==kd && List.isPrefixOf [60] _)=true;rw[hq,hp];rfl)
     go_wp2_with (go_at_call 191;refine(qbk s _ [60] _ rfl).mono ?_;rintro e w' ⟨rfl,rfl⟩)
     go_region
     go_wp2
     go_ret2
     exact⟨by rw[HV.out];rfl,by repeat(first|exact ha|exact ha.alloc hz _|apply Below.drew)⟩
    ·have hp:List.isPrefixOf [60] s.data.toList=false:=ye.2 hp
     have HV:Hid ((qbm.take (1+1)).find? (fits kd s.data.toList)=none):=
      qdd kd _ 1 _ rfl HN.out (by show((1:Int)==kd && List.isPrefixOf [60] _)=false;rw[hq,hp];rfl)
     go_wp2_with (go_at_call 191;refine(qbk s _ [60] _ rfl).mono ?_;rintro e w' ⟨rfl,rfl⟩)
     go_roundw
     case rel=>exact⟨2,by omega,rfl,HV.out,by repeat(first|exact ha|exact ha.alloc hz _|apply Below.drew)⟩
     case measure=>simp[intOf]
   ·have hq:((1:Int)==kd)=false:=by simpa using hq
    have HV:Hid ((qbm.take (1+1)).find? (fits kd s.data.toList)=none):=
     qdd kd _ 1 _ rfl HN.out (by show((1:Int)==kd && _)=false;rw[hq];rfl)
    go_wp2
    go_roundw
    case rel=>exact⟨2,by omega,rfl,HV.out,by repeat(first|exact ha|exact ha.alloc hz _|apply Below.drew)⟩
    case measure=>simp[intOf]
  ·by_cases hq:((1:Int)==kd)=true
   ·by_cases hp:List.isPrefixOf [62] s.data.toList=true
    ·have HV:Hid (o=([62],[38,103,116,59])):=by
      show _=_;rw[<-HO.out];exact qhf kd _ 2 _ rfl HN.out (by show((1:Int)==kd && List.isPrefixOf [62] _)=true;rw[hq,hp];rfl)
     go_wp2_with (go_at_call 191;refine(qbk s _ [62] _ rfl).mono ?_;rintro e w' ⟨rfl,rfl⟩)
     go_region
     go_wp2
     go_ret2
     exact⟨by rw[HV.out];rfl,by repeat(first|exact ha|exact ha.alloc hz _|apply Below.drew)⟩
    ·have hp:List.isPrefixOf [62] s.data.toList=false:=ye.2 hp
     have HV:Hid ((qbm.take (2+1)).find? (fits kd s.data.toList)=none):=
      qdd kd _ 2 _ rfl HN.out (by show((1:Int)==kd && List.isPrefixOf [62] _)=false;rw[hq,hp];rfl)
     go_wp2_with (go_at_call 191;refine(qbk s _ [62] _ rfl).mono ?_;rintro e w' ⟨rfl,rfl⟩)
     go_roundw
     case rel=>exact⟨3,by omega,rfl,HV.out,by repeat(first|exact ha|exact ha.alloc hz _|apply Below.drew)⟩
     case measure=>simp[intOf]
   ·have hq:((1:Int)==kd)=false:=by simpa using hq
    have HV:Hid ((qbm.take (2+1)).find? (fits kd s.data.toList)=none):=
     qdd kd _ 2 _ rfl HN.out (by show((1:Int)==kd && _)=false;rw[hq];rfl)
    go_wp2
    go_roundw
    case rel=>exact⟨3,by omega,rfl,HV.out,by repeat(first|exact ha|exact ha.alloc hz _|apply Below.drew)⟩
    case measure=>simp[intOf]
  ·by_cases hq:((1:Int)==kd)=true
   ·by_cases hp:List.isPrefixOf [34] s.data.toList=true
    ·have HV:Hid (o=([34],[38,113,117,111,116,59])):=by
      show _=_;rw[<-HO.out];exact qhf kd _ 3 _ rfl HN.out (by show((1:Int)==kd && List.isPrefixOf [34] _)=true;rw[hq,hp];rfl)
     go_wp2_with (go_at_call 191;refine(qbk s _ [34] _ rfl).mono ?_;rintro e w' ⟨rfl,rfl⟩)
     go_region
     go_wp2
     go_ret2
     exact⟨by rw[HV.out];rfl,by repeat(first|exact ha|exact ha.alloc hz _|apply Below.drew)⟩
    ·have hp:List.isPrefixOf [34] s.data.toList=false:=ye.2 hp
     have HV:Hid ((qbm.take (3+1)).find? (fits kd s.data.toList)=none):=
      qdd kd _ 3 _ rfl HN.out (by show((1:Int)==kd && List.isPrefixOf [34] _)=false;rw[hq,hp];rfl)
     go_wp2_with (go_at_call 191;refine(qbk s _ [34] _ rfl).mono ?_;rintro e w' ⟨rfl,rfl⟩)
     go_roundw
     case rel=>exact⟨4,by omega,rfl,HV.out,by repeat(first|exact ha|exact ha.alloc hz _|apply Below.drew)⟩
     case measure=>simp[intOf]
   ·have hq:((1:Int)==kd)=false:=by simpa using hq
    have HV:Hid ((qbm.take (3+1)).find? (fits kd s.data.toList)=none):=
     qdd kd _ 3 _ rfl HN.out (by show((1:Int)==kd && _)=false;rw[hq];rfl)
    go_wp2
    go_roundw
    case rel=>exact⟨4,by omega,rfl,HV.out,by repeat(first|exact ha|exact ha.alloc hz _|apply Below.drew)⟩
    case measure=>simp[intOf]
  ·by_cases hq:((1:Int)==kd)=true
   ·by_cases hp:List.isPrefixOf [39] s.data.toList=true
    ·have HV:Hid (o=([39],[38,35,51,57,59])):=by
      show _=_;rw[<-HO.out];exact qhf kd _ 4 _ rfl HN.out (by show((1:Int)==kd && List.isPrefixOf [39] _)=true;rw[hq,hp];rfl)
     go_wp2_with (go_at_call 191;refine(qbk s _ [39] _ rfl).mono ?_;rintro e w' ⟨rfl,rfl⟩)
     go_region
     go_wp2
     go_ret2
     exact⟨by rw[HV.out];rfl,by repeat(first|exact ha|exact ha.alloc hz _|apply Below.drew)⟩
    ·have hp:List.isPrefixOf [39] s.data.toList=false:=ye.2 hp
     have HV:Hid ((qbm.take (4+1)).find? (fits kd s.data.toList)=none):=
      qdd kd _ 4 _ rfl HN.out (by show((1:Int)==kd && List.isPrefixOf [39] _)=false;rw[hq,hp];rfl)
     go_wp2_with (go_at_call 191;refine(qbk s _ [39] _ rfl).mono ?_;rintro e w' ⟨rfl,rfl⟩)
     go_roundw
     case rel=>exact⟨5,by omega,rfl,HV.out,by repeat(first|exact ha|exact ha.alloc hz _|apply Below.drew)⟩
     case measure=>simp[intOf]
   ·have hq:((1:Int)==kd)=false:=by simpa using hq
    have HV:Hid ((qbm.take (4+1)).find? (fits kd s.data.toList)=none):=
     qdd kd _ 4 _ rfl HN.out (by show((1:Int)==kd && _)=false;rw[hq];rfl)
    go_wp2
    go_roundw
    case rel=>exact⟨5,by omega,rfl,HV.out,by repeat(first|exact ha|exact ha.alloc hz _|apply Below.drew)⟩
    case measure=>simp[intOf]
  ·by_cases hq:((4:Int)==kd)=true
   ·by_cases hp:List.isPrefixOf [226,128,168] s.data.toList=true
    ·have HV:Hid (o=([226,128,168],[92,117,50,48,50,56])):=by
      show _=_;rw[<-HO.out];exact qhf kd _ 5 _ rfl HN.out (by show((4:Int)==kd && List.isPrefixOf [226,128,168] _)=true;rw[hq,hp];rfl)
     go_wp2_with (go_at_call 191;refine(qbk s _ [226,128,168] _ rfl).mono ?_;rintro e w' ⟨rfl,rfl⟩)
     go_region
     go_wp2
     go_ret2
     exact⟨by rw[HV.out];rfl,by repeat(first|exact ha|exact ha.alloc hz _|apply Below.drew)⟩
    ·have hp:List.isPrefixOf [226,128,168] s.data.toList=false:=ye.2 hp
     have HV:Hid ((qbm.take (5+1)).find? (fits kd s.data.toList)=none):=
      qdd kd _ 5 _ rfl HN.out (by show((4:Int)==kd && List.isPrefixOf [226,128,168] _)=false;rw[hq,hp];rfl)
     go_wp2_with (go_at_call 191;refine(qbk s _ [226,128,168] _ rfl).mono ?_;rintro e w' ⟨rfl,rfl⟩)
     go_roundw
     case rel=>exact⟨6,by omega,rfl,HV.out,by repeat(first|exact ha|exact ha.alloc hz _|apply Below.drew)⟩
     case measure=>simp[intOf]
   ·have hq:((4:Int)==kd)=false:=by simpa using hq
    have HV:Hid ((qbm.take (5+1)).find? (fits kd s.data.toList)=none):=
     qdd kd _ 5 _ rfl HN.out (by show((4:Int)==kd && _)=false;rw[hq];rfl)
    go_wp2
    go_roundw
    case rel=>exact⟨6,by omega,rfl,HV.out,by repeat(first|exact ha|exact ha.alloc hz _|apply Below.drew)⟩
    case measure=>simp[intOf]
  ·by_cases hq:((4:Int)==kd)=true
   ·by_cases hp:List.isPrefixOf [226,128,169] s.data.toList=true
    ·have HV:Hid (o=([226,128,169],[92,117,50,48,50,57])):=by
      show _=_;rw[<-HO.out];exact qhf kd _ 6 _ rfl HN.out (by show((4:Int)==kd && List.isPrefixOf [226,128,169] _)=true;rw[hq,hp];rfl)
     go_wp2_with (go_at_call 191;refine(qbk s _ [226,128,169] _ rfl).mono ?_;rintro e w' ⟨rfl,rfl⟩)
     go_region
     go_wp2
     go_ret2
     exact⟨by rw[HV.out];rfl,by repeat(first|exact ha|exact ha.alloc hz _|apply Below.drew)⟩
    ·have hp:List.isPrefixOf [226,128,169] s.data.toList=false:=ye.2 hp
     have HV:Hid ((qbm.take (6+1)).find? (fits kd s.data.toList)=none):=
      qdd kd _ 6 _ rfl HN.out (by show((4:Int)==kd && List.isPrefixOf [226,128,169] _)=false;rw[hq,hp];rfl)
     go_wp2_with (go_at_call 191;refine(qbk s _ [226,128,169] _ rfl).mono ?_;rintro e w' ⟨rfl,rfl⟩)
     go_roundw
     case rel=>exact⟨7,by omega,rfl,HV.out,by repeat(first|exact ha|exact ha.alloc hz _|apply Below.drew)⟩
     case measure=>simp[intOf]
   ·have hq:((4:Int)==kd)=false:=by simpa using hq
    have HV:Hid ((qbm.take (6+1)).find? (fits kd s.data.toList)=none):=
     qdd kd _ 6 _ rfl HN.out (by show((4:Int)==kd && _)=false;rw[hq];rfl)
    go_wp2
    go_roundw
    case rel=>exact⟨7,by omega,rfl,HV.out,by repeat(first|exact ha|exact ha.alloc hz _|apply Below.drew)⟩
    case measure=>simp[intOf]
  ·have HV:Hid (o=([],[])):=by
    show _=_;rw[<-HO.out];exact q9q kd _ HN.out
   go_wp2
   go_ret2
   exact⟨by rw[HV.out];rfl,ha⟩
end Go.Proofs.YtfkhljmiehdgmaaGreatDoor
