/-
  Steps of the proof (texts laid together, blanks left out): PgWH, PgWD, PgScU, EnD, KpL, RdB, RdA.
-/
import Derived.Test.YtfkhljmiehdgmaaGreatDoorTaAD
import Derived.Deep.MidRow
import Derived.RegionTactic
import Derived.Test.YtfkhljmiehdgmaaGreatDoorTaAV
import Derived.Test.YtfkhljmiehdgmaaGreatDoorTaBC
import Derived.Lib.FieldsP
import Derived.Lib.SpaceUEq
import Derived.Test.YtfkhljmiehdgmaaGreatDoorTaAA
import Derived.Lib.RuneCount
import Derived.BigCall
import Derived.BigRegion
import Derived.BigQuiet
import Derived.Deep.QuietTactic
import Derived.Deep.RegionWith
import Derived.ScopeJumps
import Derived.WalkMore
import Derived.Test.YtfkhljmiehdgmaaGreatDoorTaAE
namespace Go.Proofs.YtfkhljmiehdgmaaGreatDoor
open Go.RowKit
theorem qw0 (a b c:Nat):Pl.or3 a b c=if a≠0 then a else if b≠0 then b else c:=rfl
set_option maxRecDepth 100000 in
set_option maxHeartbeats 3200000 in
theorem q73 (a b c:Nat) (g:Nat) (w:World) (h0:w.cell? ⟨g,0,none⟩=some (.int .u8 (a:Int))) (h1:w.cell? ⟨g,1,none⟩=some (.int .u8 (b:Int))) (h2:w.cell? ⟨g,2,none⟩=some (.int .u8 (c:Int))) :
  Calls Tryz.prog 97 #[.slice (some ⟨g,0,none⟩) 3 3] w fun e w'=>e=.returned (.int .u8 (Pl.or3 a b c:Nat))∧w=w':=by
 generalize hor:Pl.or3 a b c=r
 have HO:Hid (Pl.or3 a b c=r):=hor
 clear hor
 go_enter Tryz.func97,Tryz.ntmps97
 go_wp2
 go_loop [5,8] (fun _ i=>∃ k:Nat,k≤3∧i=.int .i64 k∧(1≤k→a=0)∧(2≤k→b=0)∧(3≤k→c=0)) (fun _ i=>3 - (intOf i).toNat)
 case atStart=>exact⟨0,by omega,rfl,by omega,by omega,by omega⟩
 case round=>
  obtain⟨k,hk,rfl,g1,g2,g3⟩:=hrel
  have H1:Hid (1≤k→a=0):=g1
  have H2:Hid (2≤k→b=0):=g2
  have H3:Hid (3≤k→c=0):=g3
  clear g1 g2 g3
  rcases(show k=0∨k=1∨k=2∨k=3 by omega)with rfl | rfl | rfl | rfl
  ·by_cases hq:a=0
   ·have HQ:Hid (a=0):=hq
    have hq':((a:Int) != 0)=false:=by rw[hq]; rfl
    clear hq
    go_wp2
    go_round
    case rel=>exact⟨1,by omega,rfl,fun _=>HQ.out,by omega,by omega⟩
    case measure=>simp[intOf]
   ·have q0:a≠0:=hq
    have HV:Hid (r=a):=by show _=_; rw[← HO.out,qw0,if_pos q0]
    have hq':((a:Int) != 0)=true:=by rw[bne_iff_ne]; omega
    clear hq q0
    go_wp2
    go_ret
    exact⟨qa5 (by rw[HV.out]),rfl⟩
  ·by_cases hq:b=0
   ·have HQ:Hid (b=0):=hq
    have hq':((b:Int) != 0)=false:=by rw[hq]; rfl
    clear hq
    go_wp2
    go_round
    case rel=>exact⟨2,by omega,rfl,fun _=>H1.out (by omega),fun _=>HQ.out,by omega⟩
    case measure=>simp[intOf]
   ·have q0:b≠0:=hq
    have HV:Hid (r=b):=by show _=_; rw[← HO.out,qw0,if_neg (by simp[H1.out (by omega)]),if_pos q0]
    have hq':((b:Int) != 0)=true:=by rw[bne_iff_ne]; omega
    clear hq q0
    go_wp2
    go_ret
    exact⟨qa5 (by rw[HV.out]),rfl⟩
  ·by_cases hq:c=0
   ·have HQ:Hid (c=0):=hq
    have hq':((c:Int) != 0)=false:=by rw[hq]; rfl
    clear hq
    go_wp2
    go_round
    case rel=>exact⟨3,by omega,rfl,fun _=>H1.out (by omega),fun _=>H2.out (by omega),fun _=>HQ.out⟩
    case measure=>simp[intOf]
   ·have q0:c≠0:=hq
    have HV:Hid (r=c):=by show _=_; rw[← HO.out,qw0,if_neg (by simp[H1.out (by omega)]),if_neg (by simp[H2.out (by omega)])]
    have hq':((c:Int) != 0)=true:=by rw[bne_iff_ne]; omega
    clear hq q0
    go_wp2
    go_ret
    exact⟨qa5 (by rw[HV.out]),rfl⟩
  ·have HV:Hid (r=0):=by show _=_; rw[← HO.out,qw0,if_neg (by simp[H1.out (by omega)]),if_neg (by simp[H2.out (by omega)])]; exact H3.out (by omega)
   go_wp2
   go_ret
   exact⟨qa5 (by rw[HV.out]; rfl),rfl⟩
theorem qg2 (a b c g:Nat) (w:World) (t:TypeId) (hg:w.heap.size=g) :
  Calls Tryz.prog 97 #[.slice (some ⟨g,0,none⟩) 3 3] (w.alloc (.cells #[.int .u8 (a:Int),.int .u8 (b:Int),.int .u8 (c:Int)] t)).drew fun e w'=>e=.returned (.int .u8 (Pl.or3 a b c:Nat))∧(w.alloc (.cells #[.int .u8 (a:Int),.int .u8 (b:Int),.int .u8 (c:Int)] t)).drew=w':=by
 subst hg
 have h:=qaa (heap_alloc_new w (.cells #[.int .u8 (a:Int),.int .u8 (b:Int),.int .u8 (c:Int)] t))
 exact q73 a b c _ _ (h 0 _ rfl) (h 1 _ rfl) (h 2 _ rfl)
theorem qhv {l:List Pl.Step} {m k:Nat} {c:UInt8} {r:Pl.Step} (hr:l[k]?=some r) (hn:(l.take k).find? (Pl.hit m c)=none) (h1:r.1=m) (h2:Pl.qa0 c r.2.1=true):Pl.lookup l m c=r.2.2:=by
 unfold Pl.lookup
 rw[Pl.qqk _ k r hr hn (by simp[Pl.hit,h1,h2])]
theorem qhu {l:List Pl.Step} {m k:Nat} {c:UInt8} (hk:l.length≤k) (hn:(l.take k).find? (Pl.hit m c)=none):Pl.lookup l m c=0:=by
 rw[List.take_of_length_le hk]at hn
 unfold Pl.lookup
 rw[hn]
theorem qmf {m:Nat} {c:UInt8} {r:Pl.Step} (h:¬ r.1=m):Pl.hit m c r=false:=by simp[Pl.hit,h]
theorem qme {m:Nat} {c:UInt8} {r:Pl.Step} (h:Pl.qa0 c r.2.1=false):Pl.hit m c r=false:=by simp[Pl.hit,h]
set_option maxRecDepth 100000 in
set_option maxHeartbeats 3200000 in
theorem qxx (m:Nat) (b:UInt8) (w:World) (ht:PTabs w) (hlo:m<19) :
  Calls Tryz.prog 95 #[.int .u8 m,.int .u8 b.toNat] w fun e w'=>e=.returned (.int .u8 (Pl.qa1 m b:Nat))∧w=w':=by
 have hT:=fun(k:Nat) (r:Pl.Step) (hk:Pl.qbs[k]?=some r)=>qwu ht.mt k r hk
 have hlo':(m:Int)<19:=by omega
 clear ht
 by_cases hl:Pl.qcm b=true
 ·have HS:Hid (Pl.qa1 m b=Pl.lookup Pl.qbs m 97):=by show _=_; unfold Pl.qa1 Pl.qd2; rw[if_pos hlo,if_pos hl]
  go_enter Tryz.func95,Tryz.ntmps95
  go_wp2_with (go_at_call 132; refine(qbx b _).mono ?_; rintro e w' ⟨rfl,rfl⟩)
  go_loop [5,12] (fun _ i=>∃ k:Nat,k≤36∧i=.int .i64 k∧(Pl.qbs.take k).find? (Pl.hit m 97)=none) (fun _ i=>36 - (intOf i).toNat)
  case atStart=>exact⟨0,by omega,rfl,rfl⟩
  case round=>
   obtain⟨k,hk,rfl,hn⟩:=hrel
   have HN:Hid ((Pl.qbs.take k).find? (Pl.hit m 97)=none):=hn
   clear hn
   by_cases hkn:k<36
   ·obtain⟨r,hr⟩:∃ r,Pl.qbs[k]?=some r:=⟨_,List.getElem?_eq_getElem (show k<Pl.qbs.length from hkn)⟩
    obtain⟨q0,q1,q2⟩:=hT k r hr
    unfold bs at q1
    have HR:Hid (Pl.qbs[k]?=some r):=hr
    clear hr hT
    by_cases hq:r.1=m
    ·have hq':((r.1:Int)==(m:Int))=true:=by rw[hq]; simp
     have HQ:Hid (r.1=m):=hq
     clear hq
     by_cases hb:Pl.qa0 97 r.2.1=true
     ·have HB:Hid (Pl.qa0 97 r.2.1=true):=hb
      clear hb
      go_wp2_with (go_at_call 130; refine(qb2 97 _ r.2.1 _ rfl HB.out).mono ?_; rintro e w' ⟨x,hx,rfl,rfl⟩)
      go_ret
      exact⟨qa5 (by rw[HS.out,qhv HR.out HN.out HQ.out HB.out]),rfl⟩
     ·have HB:Hid (Pl.qa0 97 r.2.1=false):=Bool.eq_false_iff.2 hb
      clear hb
      go_wp2_with (go_at_call 130; refine(qb4 97 _ r.2.1 _ rfl HB.out).mono ?_; rintro e w' ⟨rfl,rfl⟩)
      go_round
      case rel=>exact⟨k+1,by omega,by go_num,Pl.qcx _ k r HR.out HN.out (qme HB.out)⟩
      case measure=>simp[intOf]; omega
    ·have hq':((r.1:Int)==(m:Int))=false:=by rw[beq_eq_false_iff_ne]; omega
     have HQ:Hid (¬ r.1=m):=hq
     clear hq
     go_wp2_with fail
     go_round
     case rel=>exact⟨k+1,by omega,by go_num,Pl.qcx _ k r HR.out HN.out (qmf HQ.out)⟩
     case measure=>simp[intOf]; omega
   ·have HE:Hid (Pl.lookup Pl.qbs m 97=0):=qhu (show Pl.qbs.length≤k by show 36≤k; omega) HN.out
    clear hT
    go_wp2_with fail
    go_ret
    exact⟨qa5 (by rw[HS.out,HE.out]; rfl),rfl⟩
 ·have hl:=Bool.eq_false_iff.2 hl
  have HS:Hid (Pl.qa1 m b=Pl.lookup Pl.qbs m b):=by show _=_; unfold Pl.qa1 Pl.qd2; rw[if_pos hlo,hl]; rfl
  go_enter Tryz.func95,Tryz.ntmps95
  go_wp2_with (go_at_call 132; refine(qbx b _).mono ?_; rintro e w' ⟨rfl,rfl⟩)
  go_loop [5,12] (fun _ i=>∃ k:Nat,k≤36∧i=.int .i64 k∧(Pl.qbs.take k).find? (Pl.hit m b)=none) (fun _ i=>36 - (intOf i).toNat)
  case atStart=>exact⟨0,by omega,rfl,rfl⟩
  case round=>
   obtain⟨k,hk,rfl,hn⟩:=hrel
   have HN:Hid ((Pl.qbs.take k).find? (Pl.hit m b)=none):=hn
   clear hn
   by_cases hkn:k<36
   ·obtain⟨r,hr⟩:∃ r,Pl.qbs[k]?=some r:=⟨_,List.getElem?_eq_getElem (show k<Pl.qbs.length from hkn)⟩
    obtain⟨q0,q1,q2⟩:=hT k r hr
    unfold bs at q1
    have HR:Hid (Pl.qbs[k]?=some r):=hr
    clear hr hT
    by_cases hq:r.1=m
    ·have hq':((r.1:Int)==(m:Int))=true:=by rw[hq]; simp
     have HQ:Hid (r.1=m):=hq
     clear hq
     by_cases hb:Pl.qa0 b r.2.1=true
     ·have HB:Hid (Pl.qa0 b r.2.1=true):=hb
      clear hb
      go_wp2_with (go_at_call 130; refine(qb2 b _ r.2.1 _ rfl HB.out).mono ?_; rintro e w' ⟨x,hx,rfl,rfl⟩)
      go_ret
      exact⟨qa5 (by rw[HS.out,qhv HR.out HN.out HQ.out HB.out]),rfl⟩
     ·have HB:Hid (Pl.qa0 b r.2.1=false):=Bool.eq_false_iff.2 hb
      clear hb
      go_wp2_with (go_at_call 130; refine(qb4 b _ r.2.1 _ rfl HB.out).mono ?_; rintro e w' ⟨rfl,rfl⟩)
      go_round
      case rel=>exact⟨k+1,by omega,by go_num,Pl.qcx _ k r HR.out HN.out (qme HB.out)⟩
      case measure=>simp[intOf]; omega
    ·have hq':((r.1:Int)==(m:Int))=false:=by rw[beq_eq_false_iff_ne]; omega
     have HQ:Hid (¬ r.1=m):=hq
     clear hq
     go_wp2_with fail
     go_round
     case rel=>exact⟨k+1,by omega,by go_num,Pl.qcx _ k r HR.out HN.out (qmf HQ.out)⟩
     case measure=>simp[intOf]; omega
   ·have HE:Hid (Pl.lookup Pl.qbs m b=0):=qhu (show Pl.qbs.length≤k by show 36≤k; omega) HN.out
    clear hT
    go_wp2_with fail
    go_ret
    exact⟨qa5 (by rw[HS.out,HE.out]; rfl),rfl⟩
set_option maxRecDepth 100000 in
set_option maxHeartbeats 3200000 in
theorem qu4 (m:Nat) (b:UInt8) (w:World) (ht:PTabs w) (hlo:¬ m<19) :
  Calls Tryz.prog 95 #[.int .u8 m,.int .u8 b.toNat] w fun e w'=>e=.returned (.int .u8 (Pl.qa1 m b:Nat))∧w=w':=by
 have hT:=fun(k:Nat) (r:Pl.Step) (hk:Pl.qbf[k]?=some r)=>qwu ht.ct k r hk
 have hlo':decide ((m:Int)<19)=false:=by rw[decide_eq_false_iff_not]; omega
 clear ht
 by_cases hl:Pl.qcm b=true
 ·have HS:Hid (Pl.qa1 m b=Pl.lookup Pl.qbf m 97):=by show _=_; unfold Pl.qa1 Pl.qd2; rw[if_neg hlo,if_pos hl]
  go_enter Tryz.func95,Tryz.ntmps95
  go_wp2_with (go_at_call 132; refine(qbx b _).mono ?_; rintro e w' ⟨rfl,rfl⟩)
  go_loop [6,35] (fun _ i=>∃ k:Nat,k≤22∧i=.int .i64 k∧(Pl.qbf.take k).find? (Pl.hit m 97)=none) (fun _ i=>22 - (intOf i).toNat)
  case atStart=>exact⟨0,by omega,rfl,rfl⟩
  case round=>
   obtain⟨k,hk,rfl,hn⟩:=hrel
   have HN:Hid ((Pl.qbf.take k).find? (Pl.hit m 97)=none):=hn
   clear hn
   by_cases hkn:k<22
   ·obtain⟨r,hr⟩:∃ r,Pl.qbf[k]?=some r:=⟨_,List.getElem?_eq_getElem (show k<Pl.qbf.length from hkn)⟩
    obtain⟨q0,q1,q2⟩:=hT k r hr
    unfold bs at q1
    have HR:Hid (Pl.qbf[k]?=some r):=hr
    clear hr hT
    by_cases hq:r.1=m
    ·have hq':((r.1:Int)==(m:Int))=true:=by rw[hq]; simp
     have HQ:Hid (r.1=m):=hq
     clear hq
     by_cases hb:Pl.qa0 97 r.2.1=true
     ·have HB:Hid (Pl.qa0 97 r.2.1=true):=hb
      clear hb
      go_wp2_with (go_at_call 130; refine(qb2 97 _ r.2.1 _ rfl HB.out).mono ?_; rintro e w' ⟨x,hx,rfl,rfl⟩)
      go_ret
      exact⟨qa5 (by rw[HS.out,qhv HR.out HN.out HQ.out HB.out]),rfl⟩
     ·have HB:Hid (Pl.qa0 97 r.2.1=false):=Bool.eq_false_iff.2 hb
      clear hb
      go_wp2_with (go_at_call 130; refine(qb4 97 _ r.2.1 _ rfl HB.out).mono ?_; rintro e w' ⟨rfl,rfl⟩)
      go_round
      case rel=>exact⟨k+1,by omega,by go_num,Pl.qcx _ k r HR.out HN.out (qme HB.out)⟩
      case measure=>simp[intOf]; omega
    ·have hq':((r.1:Int)==(m:Int))=false:=by rw[beq_eq_false_iff_ne]; omega
     have HQ:Hid (¬ r.1=m):=hq
     clear hq
     go_wp2_with fail
     go_round
     case rel=>exact⟨k+1,by omega,by go_num,Pl.qcx _ k r HR.out HN.out (qmf HQ.out)⟩
     case measure=>simp[intOf]; omega
   ·have HE:Hid (Pl.lookup Pl.qbf m 97=0):=qhu (show Pl.qbf.length≤k by show 22≤k; omega) HN.out
    clear hT
    go_wp2_with fail
    go_ret
    exact⟨qa5 (by rw[HS.out,HE.out]; rfl),rfl⟩
 ·have hl:=Bool.eq_false_iff.2 hl
  have HS:Hid (Pl.qa1 m b=Pl.lookup Pl.qbf m b):=by show _=_; unfold Pl.qa1 Pl.qd2; rw[if_neg hlo,hl]; rfl
  go_enter Tryz.func95,Tryz.ntmps95
  go_wp2_with (go_at_call 132; refine(qbx b _).mono ?_; rintro e w' ⟨rfl,rfl⟩)
  go_loop [6,35] (fun _ i=>∃ k:Nat,k≤22∧i=.int .i64 k∧(Pl.qbf.take k).find? (Pl.hit m b)=none) (fun _ i=>22 - (intOf i).toNat)
  case atStart=>exact⟨0,by omega,rfl,rfl⟩
  case round=>
   obtain⟨k,hk,rfl,hn⟩:=hrel
   have HN:Hid ((Pl.qbf.take k).find? (Pl.hit m b)=none):=hn
   clear hn
   by_cases hkn:k<22
   ·obtain⟨r,hr⟩:∃ r,Pl.qbf[k]?=some r:=⟨_,List.getElem?_eq_getElem (show k<Pl.qbf.length from hkn)⟩
    obtain⟨q0,q1,q2⟩:=hT k r hr
    unfold bs at q1
    have HR:Hid (Pl.qbf[k]?=some r):=hr
    clear hr hT
    by_cases hq:r.1=m
    ·have hq':((r.1:Int)==(m:Int))=true:=by rw[hq]; simp
     have HQ:Hid (r.1=m):=hq
     clear hq
     by_cases hb:Pl.qa0 b r.2.1=true
     ·have HB:Hid (Pl.qa0 b r.2.1=true):=hb
      clear hb
      go_wp2_with (go_at_call 130; refine(qb2 b _ r.2.1 _ rfl HB.out).mono ?_; rintro e w' ⟨x,hx,rfl,rfl⟩)
      go_ret
      exact⟨qa5 (by rw[HS.out,qhv HR.out HN.out HQ.out HB.out]),rfl⟩
     ·have HB:Hid (Pl.qa0 b r.2.1=false):=Bool.eq_false_iff.2 hb
      clear hb
      go_wp2_with (go_at_call 130; refine(qb4 b _ r.2.1 _ rfl HB.out).mono ?_; rintro e w' ⟨rfl,rfl⟩)
      go_round
      case rel=>exact⟨k+1,by omega,by go_num,Pl.qcx _ k r HR.out HN.out (qme HB.out)⟩
      case measure=>simp[intOf]; omega
    ·have hq':((r.1:Int)==(m:Int))=false:=by rw[beq_eq_false_iff_ne]; omega
     have HQ:Hid (¬ r.1=m):=hq
     clear hq
     go_wp2_with fail
     go_round
     case rel=>exact⟨k+1,by omega,by go_num,Pl.qcx _ k r HR.out HN.out (qmf HQ.out)⟩
     case measure=>simp[intOf]; omega
   ·have HE:Hid (Pl.lookup Pl.qbf m b=0):=qhu (show Pl.qbf.length≤k by show 22≤k; omega) HN.out
    clear hT
    go_wp2_with fail
    go_ret
    exact⟨qa5 (by rw[HS.out,HE.out]; rfl),rfl⟩
theorem qb8 (m:Nat) (b:UInt8) (w:World) (ht:PTabs w) :
  Calls Tryz.prog 95 #[.int .u8 m,.int .u8 b.toNat] w fun e w'=>e=.returned (.int .u8 (Pl.qa1 m b:Nat))∧w=w':=by
 by_cases h:m<19
 ·exact qxx m b w ht h
 ·exact qu4 m b w ht h
theorem qb7.there {n:Nat} {w:World} {g:Nat} (h:qb7 n w g):w.there g 0 n:=fun j hj=>by
 rw[Nat.zero_add]
 obtain⟨v,hv⟩:=h.cell j hj
 exact⟨by rw[hv]; rfl,h.thaw j⟩
structure EnW (w wr:World):Prop where
 below:Below w.heap.size w wr
 tabs:PTabs wr
 ml:qay wr
theorem EnW.refl {w:World} (h:PTabs w) (hm:qay w):EnW w w:=⟨Below.refl _ _,h,hm⟩
theorem EnW.next {w wr w':World} (h:EnW w wr) (hb:Below wr.heap.size wr w'):EnW w w':=⟨h.below.trans (hb.mono h.below.size),h.tabs.kept hb,h.ml.below hb⟩
theorem EnW.alloc {w wr:World} (h:EnW w wr) (o:Obj):EnW w (wr.alloc o):=h.next ((Below.refl _ _).alloc (Nat.le_refl _) o)
theorem EnW.drewN {w wr:World} (h:EnW w wr) (n:Nat):EnW w (wr.drewN n):=h.next (qa3 (Below.refl _ _) n)
theorem qy8:ql2 Pl.Ft.none=.agg #[.int .i64 0,.int .i64 0,.string ⟨#[]⟩,.int .i64 0]:=rfl
end Go.Proofs.YtfkhljmiehdgmaaGreatDoor
namespace Go.Proofs.YtfkhljmiehdgmaaGreatDoor.Pl
theorem qfm (kd:Int) (l:List UInt8):(qan kd l).length≤24*l.length+8:=by
 have hc:=qt0 l
 unfold qan
 by_cases a:kd=1
 ·rw[if_pos a]; have:=qgf 6 qxo (qdb l); unfold qic; omega
 rw[if_neg a]
 by_cases b:kd=3
 ·rw[if_pos b]; have:=qgf 6 qk6 (qdb l); unfold qik; omega
 rw[if_neg b]
 by_cases c:kd=2
 ·rw[if_pos c]
  unfold qe5
  split
  ·simp[qrk]
  ·have:=qgf 6 qk6 ((qdb l).drop (qbz (qdb l)))
   rw[List.length_drop]at this
   have hs:=qpd (qdb l)
   rw[List.length_append,List.length_take]; unfold qik; omega
 rw[if_neg c]
 by_cases d:kd=4
 ·rw[if_pos d]; have:=qsf (qdb l); omega
 rw[if_neg d]
 by_cases e:kd=5
 ·rw[if_pos e]; have:=qgf 6 qu2 (qdb l); unfold qr8; omega
 rw[if_neg e]; simp
end Go.Proofs.YtfkhljmiehdgmaaGreatDoor.Pl
namespace Go.Proofs.YtfkhljmiehdgmaaGreatDoor
open Go.Lib
def qb6 (x:Nat):Bool:=decide (x=9∨x=10∨x=12∨x=13∨x=32)
theorem qok (b:UInt8):Pl.qa0 b Pl.qbc=qb6 b.toNat:=by
 have h:∀ i:Fin 256,Pl.qa0 (UInt8.ofNat i.val) Pl.qbc=qb6 i.val:=by decide +kernel
 have:=h ⟨b.toNat,b.toNat_lt⟩
 simpa using this
theorem qfd (x:Nat) (h:128≤x):qb6 x=false:=by
 unfold qb6
 rw[decide_eq_false_iff_not]
 omega
theorem qx4 (n b0 b1 b2 b3:Nat) (h:qb6 (decodeN n b0 b1 b2 b3).1=true):(decodeN n b0 b1 b2 b3).2=1∧(decodeN n b0 b1 b2 b3).1=b0:=by
 have h2:(decodeN n b0 b1 b2 b3).1<128:=by
  rcases Nat.lt_or_ge (decodeN n b0 b1 b2 b3).1 128 with h3 | h3
  ·exact h3
  ·rw[qfd _ h3]at h; cases h
 rcases decodeN_cases n b0 b1 b2 b3 with ⟨c,e⟩ | ⟨c1,c2,c3,cv,e⟩ | ⟨c1,c2,c3,c4,cv,e⟩ | ⟨c,e⟩ | e
 ·rw[e]; exact⟨rfl,rfl⟩
 ·rw[e]at h2; dsimp only at h2; omega
 ·rw[e]at h2; dsimp only at h2; omega
 ·omega
 ·rw[e]at h2; dsimp only at h2; omega
theorem qx3 (l:List UInt8) (hne:l≠[]) (hs:qb6 (decodeL l).1=false):(decodeL l).2≤l.length∧∀ j,j<(decodeL l).2→qb6 (l.getD j 0).toNat=false:=by
 have hl:0<l.length:=List.length_pos_iff.2 hne
 have hc:=decodeN_conts l.length (l.getD 0 0).toNat (l.getD 1 0).toNat (l.getD 2 0).toNat (l.getD 3 0).toNat
 rw[decodeL_N]at hs ⊢
 obtain⟨c2,c3,c4,c5⟩:=hc
 refine⟨by omega,fun j hj=>?_⟩
 have hj4:j<4:=by omega
 rcases(show j=0∨j=1∨j=2∨j=3 by omega)with rfl | rfl | rfl | rfl
 ·by_cases h0:(l.getD 0 0).toNat<128
  ·have e:decodeN l.length (l.getD 0 0).toNat (l.getD 1 0).toNat (l.getD 2 0).toNat (l.getD 3 0).toNat=((l.getD 0 0).toNat,1):=by
    unfold decodeN
    rw[if_pos h0]
   rw[e]at hs
   exact hs
  ·exact qfd _ (by omega)
 ·exact qfd _ (by have:=(c2 (by omega)).1; omega)
 ·exact qfd _ (by have:=(c3 (by omega)).1; omega)
 ·exact qfd _ (by have:=(c4 (by omega)).1; omega)
theorem qo4:∀(k:Nat) (cur l:List UInt8),k≤l.length→(∀ j,j<k→qb6 (l.getD j 0).toNat=false)→Pl.qcz cur l=Pl.qcz (cur++l.take k) (l.drop k)
 | 0,cur,l,_,_=>by simp
 | k+1,cur,[],h,_=>by simp at h
 | k+1,cur,b::t,h,hz=>by
   have h0:=hz 0 (by omega)
   rw[List.getD_cons_zero]at h0
   have h1:Pl.qcz cur (b::t)=Pl.qcz (cur++[b]) t:=by
    rw[Pl.qcz,qok,h0]; rfl
   rw[h1,qo4 k (cur++[b]) t (by simp at h; omega) (fun j hj=>by have:=hz (j+1) (by omega); simpa using this)]
   simp
theorem qul (s:ByteArray):∀(f pos:Nat) (st:Option Nat) (acc:List (Nat×Nat)),s.size≤pos+f→pos≤s.size→(∀ a,st=some a→a<pos) →
  acc.map (fun p=>pieceU s.data.toList p.1 p.2)++Pl.qcz (openPiece s.data.toList st pos) (s.data.toList.drop pos)=(closeSpans s (spansFromP qb6 s f pos st acc)).map (fun p=>pieceU s.data.toList p.1 p.2):=by
 have hend:∀(f:Nat) (st:Option Nat) (acc:List (Nat×Nat)),(∀ a,st=some a→a<s.size) →
   acc.map (fun p=>pieceU s.data.toList p.1 p.2)++Pl.qcz (openPiece s.data.toList st s.size) (s.data.toList.drop s.size)=(closeSpans s (spansFromP qb6 s f s.size st acc)).map (fun p=>pieceU s.data.toList p.1 p.2):=by
  intro f st acc hst
  have hd:s.data.toList.drop s.size=[]:=List.drop_eq_nil_of_le (by rw[← size_eq]; exact Nat.le_refl _)
  rw[hd,spansFromP_end _ s _ _ _ _ (Nat.lt_irrefl _)]
  cases st with
  | none=>simp[closeSpans,openPiece,Pl.qcz]
  | some a=>
    have:=pieceU_ne s.data.toList a s.size (hst a rfl) (by rw[← size_eq]; exact Nat.le_refl _)
    simp[closeSpans,openPiece,Pl.qcz,this]
 intro f
 induction f with
 | zero=>
   intro pos st acc h hp hst
   obtain rfl:pos=s.size:=by omega
   exact hend 0 st acc hst
 | succ f IH=>
   intro pos st acc h hp hst
   by_cases hlt:pos<s.size
   rotate_left
   ·obtain rfl:pos=s.size:=by omega
    exact hend (f+1) st acc hst
   ·have hne:s.data.toList.drop pos≠[]:=by
     intro h0
     have:=congrArg List.length h0
     rw[List.length_drop,← size_eq]at this
     simp at this
     omega
    have hw:=width_pos s pos
    have hwn:pos+(Utf8.decode s pos).2≤s.size:=by
     have:=decodeN_le_n' (s.size - pos) (s.get! pos).toNat (s.get! (pos+1)).toNat (s.get! (pos+2)).toNat (s.get! (pos+3)).toNat (by omega)
     rw[← decode_at]at this
     omega
    simp only[spansFromP,if_pos hlt]
    cases hsp:qb6 (Utf8.decode s pos).1 with
    | true=>
      simp only[if_true]
      have hone:=qx4 _ _ _ _ _ (by rw[decode_N]at hsp; exact hsp)
      rw[← decode_N]at hone
      obtain⟨o1,o2⟩:=hone
      obtain⟨b,t,hbt⟩:∃ b t,s.data.toList.drop pos=b::t:=by
       cases e:s.data.toList.drop pos with
       | nil=>exact absurd e hne
       | cons b t=>exact⟨b,t,rfl⟩
      have hb:qb6 b.toNat=true:=by
       rw[o2]at hsp
       have:s.data.toList.getD pos 0=b:=by
        have:=congrArg (fun l=>l.getD 0 0) hbt
        simpa [getD_dropU] using this
       rw[this]at hsp
       exact hsp
      have ht:s.data.toList.drop (pos+1)=t:=by
       have:=congrArg (List.drop 1) hbt
       simpa [List.drop_drop] using this
      have hgo:∀ cur,Pl.qcz cur (b::t)=if cur=[] then Pl.qcz [] t else cur::Pl.qcz [] t:=fun cur=>by
       rw[Pl.qcz,qok,hb]; rfl
      rw[o1]
      cases st with
      | none=>
        have ih:=IH (pos+1) none acc (by omega) (by omega) (fun a h=>by cases h)
        rw[hbt,hgo]
        rw[ht]at ih
        simpa [openPiece] using ih
      | some a=>
        have hpn:=pieceU_ne s.data.toList a pos (hst a rfl) (by rw[← size_eq]; omega)
        have ih:=IH (pos+1) none (acc++[(a,pos)]) (by omega) (by omega) (fun a h=>by cases h)
        rw[hbt,hgo]
        rw[ht]at ih
        simpa [openPiece,hpn] using ih
    | false=>
      simp only[Bool.false_eq_true,if_false]
      have hpl:=qx3 _ hne (by rw[decodeL_drop]; exact hsp)
      rw[decodeL_drop]at hpl
      have hsk:=fun cur=>qo4 _ cur _ hpl.1 hpl.2
      simp only[List.drop_drop]at hsk
      rw[hsk]
      cases st with
      | none=>
        have ih:=IH (pos+(Utf8.decode s pos).2) (some pos) acc (by omega) hwn (fun a h=>by cases h; omega)
        have e:([]:List UInt8)++(s.data.toList.drop pos).take (Utf8.decode s pos).2=pieceU s.data.toList pos (pos+(Utf8.decode s pos).2):=by
         unfold pieceU
         rw[List.nil_append,Nat.add_sub_cancel_left]
        simp only[openPiece]at ih ⊢
        rw[e]
        exact ih
      | some a=>
        have ih:=IH (pos+(Utf8.decode s pos).2) (some a) acc (by omega) hwn (fun b h=>by cases h; have:=hst a rfl; omega)
        simp only[openPiece]at ih ⊢
        rw[pieceU_grow _ _ _ _ (Nat.le_of_lt (hst a rfl))]
        exact ih
theorem qtj (s:ByteArray):(goFieldsP qb6 s).map (·.data.toList)=Pl.qkx s.data.toList:=by
 have h:=qul s s.size 0 none [] (by omega) (Nat.zero_le _) (fun a h=>by cases h)
 simp only[List.map_nil,List.nil_append,openPiece,List.drop_zero]at h
 unfold Pl.qkx goFieldsP spansOfP
 rw[h,List.map_map]
 congr 1
 funext p
 simp[pieceU]
end Go.Proofs.YtfkhljmiehdgmaaGreatDoor
namespace Go.Proofs.YtfkhljmiehdgmaaGreatDoor
open Go.RowKit
def rdBl:ByteArray:=⟨#[9,10,12,13,32]⟩
theorem q0r:∀ pos,pos<5→Utf8.decode rdBl pos=((rdBl.data.toList.getD pos 0).toNat,1)∧(rdBl.data.toList.getD pos 0).toNat<128:=by
 intro pos h
 rcases(show pos=0∨pos=1∨pos=2∨pos=3∨pos=4 by omega)with rfl | rfl | rfl | rfl | rfl<;>decide +kernel
set_option maxRecDepth 100000 in
set_option maxHeartbeats 3200000 in
theorem qnx (w:World):Calls Tryz.prog 244 #[.string ⟨#[9,10,12,13,32]⟩,.int .i32 65533] w fun e w'=>e=.returned (.int .i64 (-1))∧Below w.heap.size w w':=by
 obtain⟨D,hD⟩:∃ D:ByteArray,D=rdBl:=⟨_,rfl⟩
 have hD2:(⟨#[9,10,12,13,32]⟩:ByteArray)=D:=by rw[hD]; rfl
 rw[hD2]
 have hDs:D.size=5:=by rw[hD]; rfl
 have hdec:∀ pos,pos<5→∃ r:Nat,Utf8.decode D pos=(r,1)∧r<128:=fun pos h=>by
  rw[hD]
  obtain⟨h1,h2⟩:=q0r pos h
  exact⟨_,h1,h2⟩
 clear hD hD2
 go_enter Tryz.func244,Tryz.ntmps244
 go_wp2_with fail
 go_loopw [] (fun wr=>∃ pos:Nat,wr.heap[w.heap.size]?=some (.stringIter D pos)∧Below w.heap.size w wr∧pos≤5) (fun wr=>5 - wr.iterPos w.heap.size)
 case atStart=>exact⟨0,World.iter_heap w D 0,(Below.refl _ _).alloc (Nat.le_refl _) _,by omega⟩
 case round=>
  obtain⟨pos,hit,hbw,hps⟩:=hrel
  by_cases hp:pos<D.size
  ·obtain⟨r,h1,h2⟩:=hdec pos (by omega)
   have hnx:=fun ty=>Lib.run_next_any_at (P:=Tryz.prog) wr w.heap.size D pos ty hit hp
   rw[h1]at hnx
   have hit2:=Lib.iterAt_heap wr w.heap.size D pos (pos+1) hit
   have hbw2:=Lib.below_iterAt hbw (k:=w.heap.size) (by omega) D (pos+1)
   have hr:((r:Int)==65533)=false:=by rw[beq_eq_false_iff_ne]; omega
   clear h1
   go_wp2_with fail
   go_roundw
   case rel=>exact⟨pos+1,hit2,hbw2,by omega⟩
   case measure=>simp only[World.iterPos,hit2,hit]; omega
  ·have hnx:=fun ty=>Lib.run_next_end_at (P:=Tryz.prog) wr w.heap.size D pos ty hit hp
   go_wp2_with fail
   go_ret
   exact⟨rfl,hbw⟩
theorem qtp (r:Int) (h1:128≤r) (hv:Utf8.valid r=true):∃ n:Nat,(Utf8.encode r).size=n+1∧1≤n∧n≤3∧∀ h:n<(Utf8.encode r).size,128≤((Utf8.encode r)[n]'h).toNat:=by
 have h128:¬ r.toNat<0x80:=by omega
 have hcont:∀ c:Nat,128≤(UInt8.ofNat (0x80+c % 64)).toNat:=fun c=>by
  rw[UInt8.toNat_ofNat']
  omega
 by_cases h2:r.toNat<0x800
 ·have e:Utf8.encode r=⟨#[UInt8.ofNat (0xC0+r.toNat / 64),UInt8.ofNat (0x80+r.toNat % 64)]⟩:=by
   unfold Utf8.encode; simp only[hv,if_true]; rw[if_neg h128,if_pos h2]
  generalize Utf8.encode r=E at e ⊢
  subst e
  exact⟨1,rfl,by omega,by omega,fun _=>hcont _⟩
 ·by_cases h3:r.toNat<0x10000
  ·have e:Utf8.encode r=⟨#[UInt8.ofNat (0xE0+r.toNat / 4096),UInt8.ofNat (0x80+r.toNat / 64 % 64),UInt8.ofNat (0x80+r.toNat % 64)]⟩:=by
    unfold Utf8.encode; simp only[hv,if_true]; rw[if_neg h128,if_neg h2,if_pos h3]
   generalize Utf8.encode r=E at e ⊢
   subst e
   exact⟨2,rfl,by omega,by omega,fun _=>hcont _⟩
  ·have e:Utf8.encode r=⟨#[UInt8.ofNat (0xF0+r.toNat / 262144),UInt8.ofNat (0x80+r.toNat / 4096 % 64),UInt8.ofNat (0x80+r.toNat / 64 % 64),UInt8.ofNat (0x80+r.toNat % 64)]⟩:=by
    unfold Utf8.encode; simp only[hv,if_true]; rw[if_neg h128,if_neg h2,if_neg h3]
   generalize Utf8.encode r=E at e ⊢
   subst e
   exact⟨3,rfl,by omega,by omega,fun _=>hcont _⟩
theorem qml (r:Int):Lib.validRune r=Utf8.valid r:=by
 unfold Lib.validRune Utf8.valid
 rw[Bool.eq_iff_iff]
 simp only[decide_eq_true_eq,Bool.or_eq_true,Bool.and_eq_true]
 omega
theorem q2d (r:Int) (w:World):(convert 21 9 (.int .i32 r)).run Tryz.prog w=.ok (.string (Utf8.encode r)) w:=by
 unfold convert
 simp[run_underlying Tryz.underlying21,run_underlying Tryz.underlying9,Conv.intToString,Result.andThen]
theorem qy6 (k:Nat) (c:UInt8) (hc:128≤c.toNat):Lib.indexByte (rdBl.extract k 5).data.toList c=-1:=by
 rcases Pl.qd0 (rdBl.extract k 5).data.toList c with ⟨_,a⟩ | ⟨a,_⟩
 ·exfalso
  have hm:c∈(rdBl.extract k 5).data.toList:=List.contains_iff_mem.1 (by unfold Pl.qa0 at a; simpa using a)
  rw[ByteArray.data_extract,Array.toList_extract,List.extract_eq_take_drop]at hm
  have hm2:c∈rdBl.data.toList:=List.mem_of_mem_drop (List.mem_of_mem_take hm)
  have:∀ b∈rdBl.data.toList,b.toNat<128:=by decide
  have:=this c hm2
  omega
 ·exact a
set_option maxRecDepth 100000 in
set_option maxHeartbeats 3200000 in
theorem qo0 (r:Int) (w:World) (h1:128≤r) (h2:r≤1114111) (h3:r≠65533):Calls Tryz.prog 244 #[.string ⟨#[9,10,12,13,32]⟩,.int .i32 r] w fun e w'=>e=.returned (.int .i64 (-1))∧Below w.heap.size w w':=by
 obtain⟨D,hD⟩:∃ D:ByteArray,D=rdBl:=⟨_,rfl⟩
 have hD2:(⟨#[9,10,12,13,32]⟩:ByteArray)=D:=by rw[hD]; rfl
 rw[hD2]
 have hDs:(D.size:Int)=5:=by rw[hD]; rfl
 have hv:=fun w=>Tryz.utf8_ValidRune r w
 have c1:¬ r<128:=by omega
 have c2:(r==65533)=false:=by rw[beq_eq_false_iff_ne]; exact h3
 have c3:(0:Int)≤r:=by omega
 rw[qml]at hv
 by_cases hval:Utf8.valid r=true
 rotate_left
 ·rw[Bool.eq_false_iff.2 hval]at hv
  have HV:=(show Hid _ from hv)
  clear hv hval
  go_enter Tryz.func244,Tryz.ntmps244
  go_wp2_with (go_at_call 253; refine(HV.out _).mono ?_; rintro e w' ⟨rfl,rfl⟩)
  go_ret
  exact⟨rfl,Below.refl _ _⟩
 ·rw[hval]at hv
  obtain⟨n,e1,e2,e3,e4⟩:=qtp r h1 hval
  have hcv:=q2d r
  generalize Utf8.encode r=E at e1 e4 hcv
  have e5:n<E.size:=by omega
  have he:=e4 e5
  have HV:=(show Hid _ from hv)
  have hE:(E.size:Int) - 1=(n:Int):=by omega
  have hE2:(n:Int)<(E.size:Int):=by omega
  have hDn:n<D.size:=by omega
  have hDb:D[n].toNat<128:=by
   have h0:∀ b∈rdBl.data.toList,b.toNat<128:=by decide
   refine h0 _ ?_
   subst hD
   exact List.mem_of_getElem? (i:=n) (by rw[List.getElem?_eq_getElem (by simpa using hDn)]; rfl)
  have hne:((D[n].toNat:Int) != (E[n].toNat:Int))=true:=by rw[bne_iff_ne]; omega
  have hix:=fun w=>(Tryz.strings_IndexByte (D.extract (n+1) D.size) (E[n].toNat:Int) w).mono (fun _ w' h=>(⟨h.1,h.2.symm⟩:_∧w=w'))
  have hIdx:Lib.indexByte (D.extract (n+1) D.size).data.toList (E[n].toNat:Int).toNat.toUInt8=-1:=by
   subst hD
   rw[show rdBl.size=5 from rfl,Int.toNat_natCast]
   refine qy6 _ _ ?_
   rw[show (E[n].toNat.toUInt8)=E[n] from by simp]
   exact he
  rw[hIdx]at hix
  have HIx:=(show Hid _ from hix)
  have hn3:(n:Int)≤3:=by omega
  have hn1:(1:Int)≤(n:Int):=by omega
  have hDn2:(n:Int)<5:=by omega
  clear hix hIdx hDb hD hD2
  clear hv hval e4 e1 e2 e3 he h1 h2 h3
  go_enter Tryz.func244,Tryz.ntmps244
  go_wp2_with (go_at_call 253; refine(HV.out _).mono ?_; rintro e w' ⟨rfl,rfl⟩)
  refine wp_scope_straight ?_
  go_wp2_with fail
  have hDn3:(n:Int)<(D.size:Int):=by omega
  have hs1:(0:Int)≤(n:Int)+1:=by omega
  have hs2:(n:Int)+1≤(D.size:Int):=by omega
  have hs3:(n:Int)+1≤5:=by omega
  have hs4:((n:Int)+1).toNat=n+1:=by omega
  have hs5:IntKind.i64.wrap ((n:Int)+1)=(n:Int)+1:=by rw[IntKind.wrap_i64]; omega
  go_loopw [9] (fun i wr=>i=.int .i64 n∧wr=w') (fun _ _=>0)
  case atStart=>exact⟨rfl,rfl⟩
  case round=>
   obtain⟨rfl,rfl⟩:=hrel
   go_wp2_with fail
   refine wp_scope_straight ?_
   go_wp2_with fail
   go_quiet (fail)
   go_wp2_with fail
   go_region_with (go_at_call 130; refine(HIx.out _).mono ?_; rintro e w'' ⟨rfl,rfl⟩)
   go_wp2_with fail
   show Exit.noGoto _ _ _ _
   simp only[Exit.noGoto]
   go_wp2_with fail
   simp only[Exit.noGoto]
   go_wp2_with fail
   go_ret
   exact⟨rfl,qa3 (Below.refl _ _) _⟩
theorem qk9 (r:Int) (w:World) (h1:128≤r) (h2:r≤1114111):Calls Tryz.prog 233 #[.string ⟨#[9,10,12,13,32]⟩,.int .i32 r] w fun e w'=>e=.returned (.bool false)∧Below w.heap.size w w':=by
 have hi:∀ w,Calls Tryz.prog 244 #[.string ⟨#[9,10,12,13,32]⟩,.int .i32 r] w fun e w'=>e=.returned (.int .i64 (-1))∧Below w.heap.size w w':=fun w=>by
  by_cases h3:r=65533
  ·subst h3; exact qnx w
  ·exact qo0 r w h1 h2 h3
 have HI:=(show Hid _ from hi)
 clear hi h1 h2
 go_enter Tryz.func233,Tryz.ntmps233
 go_wp2_with (go_at_call 244; refine(HI.out _).mono ?_; rintro e w' ⟨rfl,hb⟩)
 go_ret
 exact⟨rfl,hb⟩
theorem qqo (x:Nat) (h:x<128):decide (0≤Lib.indexByte rdBl.data.toList ((x:Int).toNat.toUInt8))=qb6 x:=by
 have hall:∀ x∈List.range 128,decide (0≤Lib.indexByte rdBl.data.toList ((x:Int).toNat.toUInt8))=qb6 x:=by decide +kernel
 exact hall x (List.mem_range.2 h)
theorem qvw (x:Nat) (w:World) (h:x≤1114111):Calls Tryz.prog 228 #[.int .i32 x] w fun e w'=>e=.returned (.bool (qb6 x))∧Below w.heap.size w w':=by
 have hi:∀ w,Calls Tryz.prog 233 #[.string ⟨#[9,10,12,13,32]⟩,.int .i32 x] w fun e w'=>e=.returned (.bool (qb6 x))∧Below w.heap.size w w':=fun w=>by
  by_cases hx:x<128
  ·rw[← qqo x hx]
   refine(Tryz.strings_ContainsRune_ascii rdBl x w (by omega) (by omega)).mono ?_
   rintro e w' ⟨rfl,rfl⟩
   exact⟨rfl,Below.refl _ _⟩
  ·have e:qb6 x=false:=by unfold qb6; rw[decide_eq_false_iff_not]; omega
   rw[e]
   exact qk9 x w (by omega) (by omega)
 have HI:=(show Hid _ from hi)
 clear hi h
 go_enter Tryz.func228,Tryz.ntmps228
 go_wp2_with (go_at_call 233; refine(HI.out _).mono ?_; rintro e w' ⟨rfl,hb⟩)
 go_ret
 exact⟨rfl,hb⟩
end Go.Proofs.YtfkhljmiehdgmaaGreatDoor
