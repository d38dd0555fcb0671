/-
  Steps of the proof (texts laid together, blanks left out): PgMkZ, PgWE.
-/
import Derived.Test.YtfkhljmiehdgmaaGreatDoorTaBG
namespace Go.Proofs.YtfkhljmiehdgmaaGreatDoor
open Go.RowKit
set_option maxRecDepth 100000 in
set_option maxHeartbeats 1600000 in
theorem qlx (x:Pl.Sx) (b:UInt8) (w:World) (hx:-1000≤x.ma.hex∧x.ma.hex≤1000) (hy:-1000≤x.ma.pct∧x.ma.pct≤1000) (hm:Pl.qaq x.st.mode=1) (hl:Pl.qcr x.st.kind x.st.mode=true) (hb:b=38) (hp:¬ b=37) :
  Calls Tryz.prog 133 #[qad x,.int .u8 b.toNat] w fun e w'=>e=.returned (qd4 (Pl.qam x.st.kind x.st.mode x.ma b) false)∧Below w.heap.size w w':=by
 have HV:Hid (Pl.qam x.st.kind x.st.mode x.ma b=⟨true,Pl.qei x.ma.hex b,(Pl.qei x.ma.pct b),(Pl.qcc x.st.kind x.st.mode x.ma.far b)⟩):=by
  show _=_
  have hr0:(b==38 || (x.ma.ref && Pl.qim b))=true:=by subst hb; rfl
  unfold Pl.qam
  rw[if_pos hm,hl,if_pos rfl,if_pos rfl,if_neg hp]
  rw[hr0]
 rw[HV.out]
 have hI:=fun w=>qbp x w
 rw[hl]at hI
 have hW:=fun w=>qba x.st.mode w
 rw[hm]at hW
 obtain⟨hx1,hx2⟩:=hx
 obtain⟨hy1,hy2⟩:=hy
 have hFA:=fun w=>qdt x b w
 have hb':((b.toNat:Int)==38)=true:=by rw[hb]; rfl
 have hp':((b.toNat:Int)==37)=false:=(Pl.qj2 b 37 (by omega)).trans (beq_eq_false_iff_ne.2 hp)
 generalize Pl.qcc x.st.kind x.st.mode x.ma.far b=FA at hFA ⊢
 unfold qd4 qcw
 unfold qad qab bs at hI hFA ⊢
 have HI:=(show Hid _ from hI)
 clear hI HV hl hm hb hp
 have HFA:=(show Hid _ from hFA)
 clear hFA
 go_enter Tryz.func133,Tryz.ntmps133
 go_wp2_with (first
  | (go_at_call 182; refine(qda _ b _ (by omega) (by omega)).mono ?_; rintro e w' ⟨rfl,rfl⟩)
  | (go_at_call 154; refine(hW _).mono ?_; rintro e w' ⟨rfl,rfl⟩)
  | (go_at_call 183; refine(qff b _).mono ?_; rintro e w' ⟨rfl,rfl⟩)
  | (go_at_call 153; refine(HI.out _).mono ?_; rintro e w' ⟨rfl,rfl⟩))
 refine(HFA.out _).mono ?_
 rintro e w1 ⟨rfl,hb1⟩
 have hw:Below w.heap.size w w1:=Below.trans (by repeat (first | refine Below.alloc ?_ (by simp<;>omega) _ | exact Below.refl _ _)) (hb1.mono (by simp<;>omega))
 have hn:=(hb1.block (w.heap.size+1+1) (by simp)).trans (qn1 w _ _ _ _)
 have hr:qb7 5 w1 (w.heap.size+1):=⟨_,_,(hb1.block (w.heap.size+1) (by simp)).trans (qe3 w _ _ _ _),rfl⟩
 have hs:qb7 5 w1 (w.heap.size+1+1):=⟨_,_,hn,rfl⟩
 have n0:=qaa hn 0 _ rfl
 have n1:=qaa hn 1 _ rfl
 have n2:=qaa hn 2 _ rfl
 have n3:=qaa hn 3 _ rfl
 have n4:=qaa hn 4 _ rfl
 have z4:=hs.thaw 4
 obtain⟨v0,p0⟩:=hr.cell 0 (by omega)
 obtain⟨v1,p1⟩:=hr.cell 1 (by omega)
 obtain⟨v2,p2⟩:=hr.cell 2 (by omega)
 obtain⟨v3,p3⟩:=hr.cell 3 (by omega)
 obtain⟨v4,p4⟩:=hr.cell 4 (by omega)
 have f0:=hr.thaw 0
 have f1:=hr.thaw 1
 have f2:=hr.thaw 2
 have f3:=hr.thaw 3
 have f4:=hr.thaw 4
 have hr2:=hr.set ⟨w.heap.size+1+1,4,none⟩ (.int .i64 FA)
 have hw2:=hw.setCell (p:=⟨w.heap.size+1+1,4,none⟩) (by simp<;>omega) (.int .i64 FA)
 clear hn hs hr hb1 hw
 go_wp2_with fail
 refine qc7 Tryz.results133 (w.heap.size+1) _ Tryz.underlying160 rfl (by kernel_rfl) rfl hr2 rfl _ _ _ _ _ ?_
 exact⟨rfl,qe7 hw2 (by simp) _ _ _ _ _⟩
set_option maxRecDepth 100000 in
set_option maxHeartbeats 1600000 in
theorem qlt (x:Pl.Sx) (b:UInt8) (w:World) (hx:-1000≤x.ma.hex∧x.ma.hex≤1000) (hy:-1000≤x.ma.pct∧x.ma.pct≤1000) (hm:Pl.qaq x.st.mode=1) (hl:Pl.qcr x.st.kind x.st.mode=true) (hb:¬ b=38) (hr:x.ma.ref=true) (hp:b=37) :
  Calls Tryz.prog 133 #[qad x,.int .u8 b.toNat] w fun e w'=>e=.returned (qd4 (Pl.qam x.st.kind x.st.mode x.ma b) false)∧Below w.heap.size w w':=by
 have HV:Hid (Pl.qam x.st.kind x.st.mode x.ma b=⟨(Pl.qim b),Pl.qei x.ma.hex b,2,(Pl.qcc x.st.kind x.st.mode x.ma.far b)⟩):=by
  show _=_
  have hr0:(b==38 || (x.ma.ref && Pl.qim b))=(Pl.qim b):=by rw[beq_eq_false_iff_ne.2 hb,hr]; rfl
  unfold Pl.qam
  rw[if_pos hm,hl,if_pos rfl,if_pos rfl,if_pos hp]
  rw[hr0]
 rw[HV.out]
 have hI:=fun w=>qbp x w
 rw[hl]at hI
 have hW:=fun w=>qba x.st.mode w
 rw[hm]at hW
 obtain⟨hx1,hx2⟩:=hx
 obtain⟨hy1,hy2⟩:=hy
 have hFA:=fun w=>qdt x b w
 have hb':((b.toNat:Int)==38)=false:=(Pl.qj2 b 38 (by omega)).trans (beq_eq_false_iff_ne.2 hb)
 have hp':((b.toNat:Int)==37)=true:=by rw[hp]; rfl
 generalize Pl.qcc x.st.kind x.st.mode x.ma.far b=FA at hFA ⊢
 unfold qd4 qcw
 unfold qad qab bs at hI hFA ⊢
 rw[hr]at hI hFA ⊢
 have HI:=(show Hid _ from hI)
 clear hI HV hl hm hb hp
 have HFA:=(show Hid _ from hFA)
 clear hFA
 go_enter Tryz.func133,Tryz.ntmps133
 go_wp2_with (first
  | (go_at_call 182; refine(qda _ b _ (by omega) (by omega)).mono ?_; rintro e w' ⟨rfl,rfl⟩)
  | (go_at_call 154; refine(hW _).mono ?_; rintro e w' ⟨rfl,rfl⟩)
  | (go_at_call 183; refine(qff b _).mono ?_; rintro e w' ⟨rfl,rfl⟩)
  | (go_at_call 153; refine(HI.out _).mono ?_; rintro e w' ⟨rfl,rfl⟩))
 refine(HFA.out _).mono ?_
 rintro e w1 ⟨rfl,hb1⟩
 have hw:Below w.heap.size w w1:=Below.trans (by repeat (first | refine Below.alloc ?_ (by simp<;>omega) _ | exact Below.refl _ _)) (hb1.mono (by simp<;>omega))
 have hn:=(hb1.block (w.heap.size+1+1) (by simp)).trans (qn1 w _ _ _ _)
 have hr:qb7 5 w1 (w.heap.size+1):=⟨_,_,(hb1.block (w.heap.size+1) (by simp)).trans (qe3 w _ _ _ _),rfl⟩
 have hs:qb7 5 w1 (w.heap.size+1+1):=⟨_,_,hn,rfl⟩
 have n0:=qaa hn 0 _ rfl
 have n1:=qaa hn 1 _ rfl
 have n2:=qaa hn 2 _ rfl
 have n3:=qaa hn 3 _ rfl
 have n4:=qaa hn 4 _ rfl
 have z4:=hs.thaw 4
 obtain⟨v0,p0⟩:=hr.cell 0 (by omega)
 obtain⟨v1,p1⟩:=hr.cell 1 (by omega)
 obtain⟨v2,p2⟩:=hr.cell 2 (by omega)
 obtain⟨v3,p3⟩:=hr.cell 3 (by omega)
 obtain⟨v4,p4⟩:=hr.cell 4 (by omega)
 have f0:=hr.thaw 0
 have f1:=hr.thaw 1
 have f2:=hr.thaw 2
 have f3:=hr.thaw 3
 have f4:=hr.thaw 4
 have hr2:=hr.set ⟨w.heap.size+1+1,4,none⟩ (.int .i64 FA)
 have hw2:=hw.setCell (p:=⟨w.heap.size+1+1,4,none⟩) (by simp<;>omega) (.int .i64 FA)
 clear hn hs hr hb1 hw
 go_wp2_with fail
 refine qc7 Tryz.results133 (w.heap.size+1) _ Tryz.underlying160 rfl (by kernel_rfl) rfl hr2 rfl _ _ _ _ _ ?_
 exact⟨rfl,qe7 hw2 (by simp) _ _ _ _ _⟩
set_option maxRecDepth 100000 in
set_option maxHeartbeats 1600000 in
theorem qlu (x:Pl.Sx) (b:UInt8) (w:World) (hx:-1000≤x.ma.hex∧x.ma.hex≤1000) (hy:-1000≤x.ma.pct∧x.ma.pct≤1000) (hm:Pl.qaq x.st.mode=1) (hl:Pl.qcr x.st.kind x.st.mode=true) (hb:¬ b=38) (hr:x.ma.ref=true) (hp:¬ b=37) :
  Calls Tryz.prog 133 #[qad x,.int .u8 b.toNat] w fun e w'=>e=.returned (qd4 (Pl.qam x.st.kind x.st.mode x.ma b) false)∧Below w.heap.size w w':=by
 have HV:Hid (Pl.qam x.st.kind x.st.mode x.ma b=⟨(Pl.qim b),Pl.qei x.ma.hex b,(Pl.qei x.ma.pct b),(Pl.qcc x.st.kind x.st.mode x.ma.far b)⟩):=by
  show _=_
  have hr0:(b==38 || (x.ma.ref && Pl.qim b))=(Pl.qim b):=by rw[beq_eq_false_iff_ne.2 hb,hr]; rfl
  unfold Pl.qam
  rw[if_pos hm,hl,if_pos rfl,if_pos rfl,if_neg hp]
  rw[hr0]
 rw[HV.out]
 have hI:=fun w=>qbp x w
 rw[hl]at hI
 have hW:=fun w=>qba x.st.mode w
 rw[hm]at hW
 obtain⟨hx1,hx2⟩:=hx
 obtain⟨hy1,hy2⟩:=hy
 have hFA:=fun w=>qdt x b w
 have hb':((b.toNat:Int)==38)=false:=(Pl.qj2 b 38 (by omega)).trans (beq_eq_false_iff_ne.2 hb)
 have hp':((b.toNat:Int)==37)=false:=(Pl.qj2 b 37 (by omega)).trans (beq_eq_false_iff_ne.2 hp)
 generalize Pl.qcc x.st.kind x.st.mode x.ma.far b=FA at hFA ⊢
 unfold qd4 qcw
 unfold qad qab bs at hI hFA ⊢
 rw[hr]at hI hFA ⊢
 have HI:=(show Hid _ from hI)
 clear hI HV hl hm hb hp
 have HFA:=(show Hid _ from hFA)
 clear hFA
 go_enter Tryz.func133,Tryz.ntmps133
 go_wp2_with (first
  | (go_at_call 182; refine(qda _ b _ (by omega) (by omega)).mono ?_; rintro e w' ⟨rfl,rfl⟩)
  | (go_at_call 154; refine(hW _).mono ?_; rintro e w' ⟨rfl,rfl⟩)
  | (go_at_call 183; refine(qff b _).mono ?_; rintro e w' ⟨rfl,rfl⟩)
  | (go_at_call 153; refine(HI.out _).mono ?_; rintro e w' ⟨rfl,rfl⟩))
 refine(HFA.out _).mono ?_
 rintro e w1 ⟨rfl,hb1⟩
 have hw:Below w.heap.size w w1:=Below.trans (by repeat (first | refine Below.alloc ?_ (by simp<;>omega) _ | exact Below.refl _ _)) (hb1.mono (by simp<;>omega))
 have hn:=(hb1.block (w.heap.size+1+1) (by simp)).trans (qn1 w _ _ _ _)
 have hr:qb7 5 w1 (w.heap.size+1):=⟨_,_,(hb1.block (w.heap.size+1) (by simp)).trans (qe3 w _ _ _ _),rfl⟩
 have hs:qb7 5 w1 (w.heap.size+1+1):=⟨_,_,hn,rfl⟩
 have n0:=qaa hn 0 _ rfl
 have n1:=qaa hn 1 _ rfl
 have n2:=qaa hn 2 _ rfl
 have n3:=qaa hn 3 _ rfl
 have n4:=qaa hn 4 _ rfl
 have z4:=hs.thaw 4
 obtain⟨v0,p0⟩:=hr.cell 0 (by omega)
 obtain⟨v1,p1⟩:=hr.cell 1 (by omega)
 obtain⟨v2,p2⟩:=hr.cell 2 (by omega)
 obtain⟨v3,p3⟩:=hr.cell 3 (by omega)
 obtain⟨v4,p4⟩:=hr.cell 4 (by omega)
 have f0:=hr.thaw 0
 have f1:=hr.thaw 1
 have f2:=hr.thaw 2
 have f3:=hr.thaw 3
 have f4:=hr.thaw 4
 have hr2:=hr.set ⟨w.heap.size+1+1,4,none⟩ (.int .i64 FA)
 have hw2:=hw.setCell (p:=⟨w.heap.size+1+1,4,none⟩) (by simp<;>omega) (.int .i64 FA)
 clear hn hs hr hb1 hw
 go_wp2_with fail
 refine qc7 Tryz.results133 (w.heap.size+1) _ Tryz.underlying160 rfl (by kernel_rfl) rfl hr2 rfl _ _ _ _ _ ?_
 exact⟨rfl,qe7 hw2 (by simp) _ _ _ _ _⟩
set_option maxRecDepth 100000 in
set_option maxHeartbeats 1600000 in
theorem qlv (x:Pl.Sx) (b:UInt8) (w:World) (hx:-1000≤x.ma.hex∧x.ma.hex≤1000) (hy:-1000≤x.ma.pct∧x.ma.pct≤1000) (hm:Pl.qaq x.st.mode=1) (hl:Pl.qcr x.st.kind x.st.mode=true) (hb:¬ b=38) (hr:x.ma.ref=false) (hp:b=37) :
  Calls Tryz.prog 133 #[qad x,.int .u8 b.toNat] w fun e w'=>e=.returned (qd4 (Pl.qam x.st.kind x.st.mode x.ma b) false)∧Below w.heap.size w w':=by
 have HV:Hid (Pl.qam x.st.kind x.st.mode x.ma b=⟨false,Pl.qei x.ma.hex b,2,(Pl.qcc x.st.kind x.st.mode x.ma.far b)⟩):=by
  show _=_
  have hr0:(b==38 || (x.ma.ref && Pl.qim b))=false:=by rw[beq_eq_false_iff_ne.2 hb,hr]; rfl
  unfold Pl.qam
  rw[if_pos hm,hl,if_pos rfl,if_pos rfl,if_pos hp]
  rw[hr0]
 rw[HV.out]
 have hI:=fun w=>qbp x w
 rw[hl]at hI
 have hW:=fun w=>qba x.st.mode w
 rw[hm]at hW
 obtain⟨hx1,hx2⟩:=hx
 obtain⟨hy1,hy2⟩:=hy
 have hFA:=fun w=>qdt x b w
 have hb':((b.toNat:Int)==38)=false:=(Pl.qj2 b 38 (by omega)).trans (beq_eq_false_iff_ne.2 hb)
 have hp':((b.toNat:Int)==37)=true:=by rw[hp]; rfl
 generalize Pl.qcc x.st.kind x.st.mode x.ma.far b=FA at hFA ⊢
 unfold qd4 qcw
 unfold qad qab bs at hI hFA ⊢
 rw[hr]at hI hFA ⊢
 have HI:=(show Hid _ from hI)
 clear hI HV hl hm hb hp
 have HFA:=(show Hid _ from hFA)
 clear hFA
 go_enter Tryz.func133,Tryz.ntmps133
 go_wp2_with (first
  | (go_at_call 182; refine(qda _ b _ (by omega) (by omega)).mono ?_; rintro e w' ⟨rfl,rfl⟩)
  | (go_at_call 154; refine(hW _).mono ?_; rintro e w' ⟨rfl,rfl⟩)
  | (go_at_call 183; refine(qff b _).mono ?_; rintro e w' ⟨rfl,rfl⟩)
  | (go_at_call 153; refine(HI.out _).mono ?_; rintro e w' ⟨rfl,rfl⟩))
 refine(HFA.out _).mono ?_
 rintro e w1 ⟨rfl,hb1⟩
 have hw:Below w.heap.size w w1:=Below.trans (by repeat (first | refine Below.alloc ?_ (by simp<;>omega) _ | exact Below.refl _ _)) (hb1.mono (by simp<;>omega))
 have hn:=(hb1.block (w.heap.size+1+1) (by simp)).trans (qn1 w _ _ _ _)
 have hr:qb7 5 w1 (w.heap.size+1):=⟨_,_,(hb1.block (w.heap.size+1) (by simp)).trans (qe3 w _ _ _ _),rfl⟩
 have hs:qb7 5 w1 (w.heap.size+1+1):=⟨_,_,hn,rfl⟩
 have n0:=qaa hn 0 _ rfl
 have n1:=qaa hn 1 _ rfl
 have n2:=qaa hn 2 _ rfl
 have n3:=qaa hn 3 _ rfl
 have n4:=qaa hn 4 _ rfl
 have z4:=hs.thaw 4
 obtain⟨v0,p0⟩:=hr.cell 0 (by omega)
 obtain⟨v1,p1⟩:=hr.cell 1 (by omega)
 obtain⟨v2,p2⟩:=hr.cell 2 (by omega)
 obtain⟨v3,p3⟩:=hr.cell 3 (by omega)
 obtain⟨v4,p4⟩:=hr.cell 4 (by omega)
 have f0:=hr.thaw 0
 have f1:=hr.thaw 1
 have f2:=hr.thaw 2
 have f3:=hr.thaw 3
 have f4:=hr.thaw 4
 have hr2:=hr.set ⟨w.heap.size+1+1,4,none⟩ (.int .i64 FA)
 have hw2:=hw.setCell (p:=⟨w.heap.size+1+1,4,none⟩) (by simp<;>omega) (.int .i64 FA)
 clear hn hs hr hb1 hw
 go_wp2_with fail
 refine qc7 Tryz.results133 (w.heap.size+1) _ Tryz.underlying160 rfl (by kernel_rfl) rfl hr2 rfl _ _ _ _ _ ?_
 exact⟨rfl,qe7 hw2 (by simp) _ _ _ _ _⟩
set_option maxRecDepth 100000 in
set_option maxHeartbeats 1600000 in
theorem qlw (x:Pl.Sx) (b:UInt8) (w:World) (hx:-1000≤x.ma.hex∧x.ma.hex≤1000) (hy:-1000≤x.ma.pct∧x.ma.pct≤1000) (hm:Pl.qaq x.st.mode=1) (hl:Pl.qcr x.st.kind x.st.mode=true) (hb:¬ b=38) (hr:x.ma.ref=false) (hp:¬ b=37) :
  Calls Tryz.prog 133 #[qad x,.int .u8 b.toNat] w fun e w'=>e=.returned (qd4 (Pl.qam x.st.kind x.st.mode x.ma b) false)∧Below w.heap.size w w':=by
 have HV:Hid (Pl.qam x.st.kind x.st.mode x.ma b=⟨false,Pl.qei x.ma.hex b,(Pl.qei x.ma.pct b),(Pl.qcc x.st.kind x.st.mode x.ma.far b)⟩):=by
  show _=_
  have hr0:(b==38 || (x.ma.ref && Pl.qim b))=false:=by rw[beq_eq_false_iff_ne.2 hb,hr]; rfl
  unfold Pl.qam
  rw[if_pos hm,hl,if_pos rfl,if_pos rfl,if_neg hp]
  rw[hr0]
 rw[HV.out]
 have hI:=fun w=>qbp x w
 rw[hl]at hI
 have hW:=fun w=>qba x.st.mode w
 rw[hm]at hW
 obtain⟨hx1,hx2⟩:=hx
 obtain⟨hy1,hy2⟩:=hy
 have hFA:=fun w=>qdt x b w
 have hb':((b.toNat:Int)==38)=false:=(Pl.qj2 b 38 (by omega)).trans (beq_eq_false_iff_ne.2 hb)
 have hp':((b.toNat:Int)==37)=false:=(Pl.qj2 b 37 (by omega)).trans (beq_eq_false_iff_ne.2 hp)
 generalize Pl.qcc x.st.kind x.st.mode x.ma.far b=FA at hFA ⊢
 unfold qd4 qcw
 unfold qad qab bs at hI hFA ⊢
 rw[hr]at hI hFA ⊢
 have HI:=(show Hid _ from hI)
 clear hI HV hl hm hb hp
 have HFA:=(show Hid _ from hFA)
 clear hFA
 go_enter Tryz.func133,Tryz.ntmps133
 go_wp2_with (first
  | (go_at_call 182; refine(qda _ b _ (by omega) (by omega)).mono ?_; rintro e w' ⟨rfl,rfl⟩)
  | (go_at_call 154; refine(hW _).mono ?_; rintro e w' ⟨rfl,rfl⟩)
  | (go_at_call 183; refine(qff b _).mono ?_; rintro e w' ⟨rfl,rfl⟩)
  | (go_at_call 153; refine(HI.out _).mono ?_; rintro e w' ⟨rfl,rfl⟩))
 refine(HFA.out _).mono ?_
 rintro e w1 ⟨rfl,hb1⟩
 have hw:Below w.heap.size w w1:=Below.trans (by repeat (first | refine Below.alloc ?_ (by simp<;>omega) _ | exact Below.refl _ _)) (hb1.mono (by simp<;>omega))
 have hn:=(hb1.block (w.heap.size+1+1) (by simp)).trans (qn1 w _ _ _ _)
 have hr:qb7 5 w1 (w.heap.size+1):=⟨_,_,(hb1.block (w.heap.size+1) (by simp)).trans (qe3 w _ _ _ _),rfl⟩
 have hs:qb7 5 w1 (w.heap.size+1+1):=⟨_,_,hn,rfl⟩
 have n0:=qaa hn 0 _ rfl
 have n1:=qaa hn 1 _ rfl
 have n2:=qaa hn 2 _ rfl
 have n3:=qaa hn 3 _ rfl
 have n4:=qaa hn 4 _ rfl
 have z4:=hs.thaw 4
 obtain⟨v0,p0⟩:=hr.cell 0 (by omega)
 obtain⟨v1,p1⟩:=hr.cell 1 (by omega)
 obtain⟨v2,p2⟩:=hr.cell 2 (by omega)
 obtain⟨v3,p3⟩:=hr.cell 3 (by omega)
 obtain⟨v4,p4⟩:=hr.cell 4 (by omega)
 have f0:=hr.thaw 0
 have f1:=hr.thaw 1
 have f2:=hr.thaw 2
 have f3:=hr.thaw 3
 have f4:=hr.thaw 4
 have hr2:=hr.set ⟨w.heap.size+1+1,4,none⟩ (.int .i64 FA)
 have hw2:=hw.setCell (p:=⟨w.heap.size+1+1,4,none⟩) (by simp<;>omega) (.int .i64 FA)
 clear hn hs hr hb1 hw
 go_wp2_with fail
 refine qc7 Tryz.results133 (w.heap.size+1) _ Tryz.underlying160 rfl (by kernel_rfl) rfl hr2 rfl _ _ _ _ _ ?_
 exact⟨rfl,qe7 hw2 (by simp) _ _ _ _ _⟩
theorem qey (x:Pl.Sx) (b:UInt8) (w:World) (hx:-1000≤x.ma.hex∧x.ma.hex≤1000) (hy:-1000≤x.ma.pct∧x.ma.pct≤1000) :
  Calls Tryz.prog 133 #[qad x,.int .u8 b.toNat] w fun e w'=>e=.returned (qd4 (Pl.qam x.st.kind x.st.mode x.ma b) false)∧Below w.heap.size w w':=by
 by_cases hm:Pl.qaq x.st.mode=1
 ·by_cases hl:Pl.qcr x.st.kind x.st.mode=true
  ·by_cases hb:b=38
   ·exact qlx x b w hx hy hm hl hb (by rw[hb]; decide)
   ·by_cases hr:x.ma.ref=true
    ·by_cases hp:b=37
     ·exact qlt x b w hx hy hm hl hb hr hp
     ·exact qlu x b w hx hy hm hl hb hr hp
    ·have hr:=Bool.eq_false_iff.2 hr
     by_cases hp:b=37
     ·exact qlv x b w hx hy hm hl hb hr hp
     ·exact qlw x b w hx hy hm hl hb hr hp
  ·have hl:=Bool.eq_false_iff.2 hl
   by_cases hb:b=38
   ·exact qm4 x b w hx hy hm hl hb
   ·by_cases hr:x.ma.ref=true
    ·exact qm2 x b w hx hy hm hl hb hr
    ·exact qm3 x b w hx hy hm hl hb (Bool.eq_false_iff.2 hr)
 ·exact qxy x b w hx hm
theorem qvp {s:Pl.St} (h:s.mode=3):s.named=⟨3,[],Pl.qci s.name,s.kind,s.read,s.esc⟩:=by
 unfold Pl.St.named; rw[if_pos h,if_neg (by omega),h]
theorem qyn {s:Pl.St} (h:s.mode=5):s.named=⟨5,[],s.elem,Pl.qex s.name,s.read,s.esc⟩:=by
 unfold Pl.St.named; rw[if_neg (by omega),if_pos h,h]
theorem qvq {s:Pl.St} (h:¬ s.mode=3) (h':¬ s.mode=5):s.named=⟨s.mode,[],s.elem,s.kind,s.read,s.esc⟩:=by
 unfold Pl.St.named; rw[if_neg h,if_neg h']
set_option maxRecDepth 100000 in
set_option maxHeartbeats 3200000 in
theorem qhc (x:Pl.Sx) (w:World) (ht:PTabs w) :
  Calls Tryz.prog 134 #[qad x] w fun e w'=>e=.returned (qad ⟨x.st.named,x.ma⟩)∧(w.alloc (.cells (qab ⟨x.st.named,x.ma⟩) 162)).alloc (.cells (qab ⟨x.st.named,x.ma⟩) 162)=w':=by
 obtain⟨s,k⟩:=x
 unfold qad qab bs
 by_cases h3:s.mode=3
 ·have HV:Hid (s.named=_):=qvp h3
  simp only
  rw[h3]
  go_enter Tryz.func134,Tryz.ntmps134
  go_wp2_with (go_at_call 185; refine(qra s.name _ (by repeat (first | exact ht | apply PTabs.alloc | apply PTabs.drew))).mono ?_; rintro e w' ⟨rfl,rfl⟩)
  refine qaz Tryz.results134 (w.heap.size+1) _ _ Tryz.underlying162 rfl rfl (qas _ _ _ (by simp)) (by kernel_rfl) rfl ?_
  rw[HV.out]
  exact⟨rfl,rfl⟩
 by_cases h5:s.mode=5
 ·have HV:Hid (s.named=_):=qyn h5
  simp only
  rw[h5]
  go_enter Tryz.func134,Tryz.ntmps134
  go_wp2_with (go_at_call 186; refine(qy0 s.name _ (by repeat (first | exact ht | apply PTabs.alloc | apply PTabs.drew))).mono ?_; rintro e w' ⟨rfl,rfl⟩)
  refine qaz Tryz.results134 (w.heap.size+1) _ _ Tryz.underlying162 rfl rfl (qas _ _ _ (by simp)) (by kernel_rfl) rfl ?_
  rw[HV.out]
  exact⟨rfl,rfl⟩
 have h3':((s.mode:Int)==3)=false:=by rw[beq_eq_false_iff_ne]; omega
 have h5':((s.mode:Int)==5)=false:=by rw[beq_eq_false_iff_ne]; omega
 have HV:Hid (s.named=_):=qvq h3 h5
 simp only
 clear h3 h5 ht
 go_enter Tryz.func134,Tryz.ntmps134
 go_wp2_with fail
 refine qaz Tryz.results134 (w.heap.size+1) _ _ Tryz.underlying162 rfl rfl (qas _ _ _ (by simp)) (by kernel_rfl) rfl ?_
 rw[HV.out]
 exact⟨rfl,rfl⟩
end Go.Proofs.YtfkhljmiehdgmaaGreatDoor
