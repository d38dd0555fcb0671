/-
  Steps of the proof (texts laid together, blanks left out): PgWY, PoA, PtA.
-/
import Derived.RegionTactic
import Derived.BigRegion
import Derived.Deep.RegionWith
import Derived.Test.YtfkhljmiehdgmaaGreatDoorTaAE
import Derived.Test.YtfkhljmiehdgmaaGreatDoorTaAV
import Derived.Test.YtfkhljmiehdgmaaGreatDoorTaAA
import Derived.Test.YtfkhljmiehdgmaaGreatDoorTaAY
import Derived.Test.YtfkhljmiehdgmaaGreatDoorTaAZ
import Derived.Test.YtfkhljmiehdgmaaGreatDoorTaAD
namespace Go.Proofs.YtfkhljmiehdgmaaGreatDoor
open Go.RowKit
set_option maxHeartbeats 800000 in
theorem q2k (w:World):Calls Tryz.prog 62 #[] w fun e w'=>e=.returned (qad Pl.Sx.start)∧w.alloc (.cells (qab Pl.Sx.start) 162)=w':=by
 go_enter Tryz.func62,Tryz.ntmps62
 go_wp2
 refine qaz Tryz.results62 w.heap.size _ _ Tryz.underlying162 rfl rfl (heap_alloc_new _ _) (by kernel_rfl) rfl ?_
 exact⟨rfl,rfl⟩
theorem SxAt.other {w:World} {g:Nat} {s:Pl.Sx} (h:SxAt w g s) (p:Addr) (v:Value) (hp:p.block≠g):SxAt (w.setCell p v) g s:=by
 have e:∀ j,p≠⟨g,j,none⟩:=fun j q=>hp (by rw[q])
 exact⟨(World.cell?_setCell_other _ _ _ _ (e _)).trans h.mode,(World.cell?_setCell_other _ _ _ _ (e _)).trans h.name,(World.cell?_setCell_other _ _ _ _ (e _)).trans h.elem,(World.cell?_setCell_other _ _ _ _ (e _)).trans h.kind,(World.cell?_setCell_other _ _ _ _ (e _)).trans h.read,(World.cell?_setCell_other _ _ _ _ (e _)).trans h.ref,(World.cell?_setCell_other _ _ _ _ (e _)).trans h.esc,(World.cell?_setCell_other _ _ _ _ (e _)).trans h.hex,(World.cell?_setCell_other _ _ _ _ (e _)).trans h.pct,(World.cell?_setCell_other _ _ _ _ (e _)).trans h.far⟩
theorem qxt {w:World} {g:Nat} (h:qb7 10 w g) (s:Pl.Sx):SxAt (qcn w g (.int .u8 (s.st.mode:Int)) (.string ⟨s.st.name.toArray⟩) (.string ⟨s.st.elem.toArray⟩) (.int .i64 s.st.kind) (.int .i64 (s.st.read:Int)) (.bool s.ma.ref) (.bool s.st.esc) (.int .i64 s.ma.hex) (.int .i64 s.ma.pct) (.int .i64 s.ma.far)) g s:=
 ⟨qck h _ _ _ _ _ _ _ _ _ _ 0 _ rfl,qck h _ _ _ _ _ _ _ _ _ _ 1 _ rfl,qck h _ _ _ _ _ _ _ _ _ _ 2 _ rfl,qck h _ _ _ _ _ _ _ _ _ _ 3 _ rfl,qck h _ _ _ _ _ _ _ _ _ _ 4 _ rfl,qck h _ _ _ _ _ _ _ _ _ _ 5 _ rfl,qck h _ _ _ _ _ _ _ _ _ _ 6 _ rfl,qck h _ _ _ _ _ _ _ _ _ _ 7 _ rfl,qck h _ _ _ _ _ _ _ _ _ _ 8 _ rfl,qck h _ _ _ _ _ _ _ _ _ _ 9 _ rfl⟩
theorem qsb {w:World} {g:Nat} (h:qb7 10 w g) (v0 v1 v2 v3 v4 v5 v6 v7 v8 v9:Value):qb7 10 (qcn w g v0 v1 v2 v3 v4 v5 v6 v7 v8 v9) g:=by
 rw[qma]
 exact qsd g g _ _ _ h
structure Round (w0 w:World) (G:Nat) (s:ByteArray) (k:Nat):Prop where
 row:w.ownsRow w0.heap.size 3 1 (.slice (some ⟨w0.heap.size,0,none⟩) s.size s.size) s.size (qhx (Pl.qdp Pl.St.start (s.data.toList.take k))++List.replicate (s.size - k) (.int .i64 0))
 at':SxAt w G (Pl.qau Pl.Sx.start (s.data.toList.take k))
 slot:qb7 10 w G
 below:Below w0.heap.size w0 w
 gt:w0.heap.size<G
theorem Round.step {w0 w w2:World} {G:Nat} {s:ByteArray} {k:Nat} (h:Round w0 w G s k) (hk:k<s.size) (Y:Pl.Sx) (hY:Y=(Pl.qau Pl.Sx.start (s.data.toList.take k)).behind s[k]) (hb:Below w.heap.size w.drew w2) :
  SxAt (qcn w2 G (.int .u8 (Y.st.mode:Int)) (.string ⟨Y.st.name.toArray⟩) (.string ⟨Y.st.elem.toArray⟩) (.int .i64 Y.st.kind) (.int .i64 (Y.st.read:Int)) (.bool Y.ma.ref) (.bool Y.st.esc) (.int .i64 Y.ma.hex) (.int .i64 Y.ma.pct) (.int .i64 Y.ma.far)) G Y ∧
  (qcn w2 G (.int .u8 (Y.st.mode:Int)) (.string ⟨Y.st.name.toArray⟩) (.string ⟨Y.st.elem.toArray⟩) (.int .i64 Y.st.kind) (.int .i64 (Y.st.read:Int)) (.bool Y.ma.ref) (.bool Y.st.esc) (.int .i64 Y.ma.hex) (.int .i64 Y.ma.pct) (.int .i64 Y.ma.far)).cell? ⟨w0.heap.size,k,none⟩=some (.int .i64 0) ∧
  w2.frozen? ⟨w0.heap.size,k,none⟩=false∧qb7 10 w2 G ∧
  Round w0 ((qcn w2 G (.int .u8 (Y.st.mode:Int)) (.string ⟨Y.st.name.toArray⟩) (.string ⟨Y.st.elem.toArray⟩) (.int .i64 Y.st.kind) (.int .i64 (Y.st.read:Int)) (.bool Y.ma.ref) (.bool Y.st.esc) (.int .i64 Y.ma.hex) (.int .i64 Y.ma.pct) (.int .i64 Y.ma.far)).setCell ⟨w0.heap.size,k,none⟩ (.int .i64 (Y.st.mode:Int))) G s (k+1):=by
 have hgt:=h.gt
 have hsz:=h.below.size
 have hlen:(qhx (Pl.qdp Pl.St.start (s.data.toList.take k))).length=k:=by rw[qs9,Pl.qqx,Pl.qwn s k (by omega)]
 have hs2:qb7 10 w2 G:=h.slot.drew.kept hb h.slot.lt
 have hB2:Below w0.heap.size w0 w2:=h.below.drew.trans (hb.mono hsz)
 have hrow2:w2.ownsRow w0.heap.size 3 1 (.slice (some ⟨w0.heap.size,0,none⟩) s.size s.size) s.size _:=qkg h.row (hb.block w0.heap.size (Nat.lt_trans hgt h.slot.lt))
 have hYst:Y.st=(Pl.qr9 Pl.St.start (s.data.toList.take k)).behind s[k]:=by rw[hY]; show ((Pl.qau Pl.Sx.start (s.data.toList.take k)).st).behind _=_; rw[Pl.qz8]; rfl
 generalize hV:(qcn w2 G (.int .u8 (Y.st.mode:Int)) (.string ⟨Y.st.name.toArray⟩) (.string ⟨Y.st.elem.toArray⟩) (.int .i64 Y.st.kind) (.int .i64 (Y.st.read:Int)) (.bool Y.ma.ref) (.bool Y.st.esc) (.int .i64 Y.ma.hex) (.int .i64 Y.ma.pct) (.int .i64 Y.ma.far))=V
 have hVB:Below G w2 V:=by rw[← hV]; exact qaw (Below.refl _ _) (Nat.le_refl _) _ _ _ _ _ _ _ _ _ _
 have hVs:qb7 10 V G:=by rw[← hV]; exact qsb hs2 _ _ _ _ _ _ _ _ _ _
 have hVa:SxAt V G Y:=by rw[← hV]; exact qxt hs2 Y
 have hrow3:=qkg hrow2 (hVB.block w0.heap.size hgt)
 have hst:=hrow3.stored k (.int .i64 (Y.st.mode:Int))
 rw[q22 _ _ _ _ _ hlen hk]at hst
 refine⟨hVa,?_,hrow2.frozenAt k,hs2,?_,?_,hVs.set _ _,?_,hgt⟩
 ·rw[hrow3.cellAt k (by omega),List.getElem?_append_right (by omega),hlen,Nat.sub_self,List.getElem?_replicate,if_pos (by omega)]
 ·have:=hst.1
  rw[Pl.qg8 s k hk,Pl.qoy,qq4,← hYst]
  exact this
 ·rw[Pl.qg8 s k hk,Pl.qjm,← hY]
  exact hVa.other _ _ (by simp; omega)
 ·exact(hB2.trans (hVB.mono (Nat.le_of_lt hgt))).setCell (p:=⟨w0.heap.size,k,none⟩) (Nat.le_refl _) _
namespace Pl
def qgy (S:List Src) (s:Sr) (e:En) (len:Nat):Sr:=
 if(qdd (behV S 257) (qaj S e.1) ((qaj S e.1).length+1) 0 s e.2).2.isNone=false∧(qdd (behV S 257) (qaj S e.1) ((qaj S e.1).length+1) 0 s e.2).2≠e.2 then(qdd (behV S 257) (qaj S e.1) ((qaj S e.1).length+1) 0 s e.2).1.wrong S e.1 15 len else(qdd (behV S 257) (qaj S e.1) ((qaj S e.1).length+1) 0 s e.2).1
end Pl
set_option maxRecDepth 100000 in
set_option maxHeartbeats 6400000 in
theorem qt3 (HB:qgn) (S:List Pl.Src) (hS:SrcsOk S) (w:World) (B:Nat) (F:Fix) (vv:Value) (s:Pl.Sr) (e:Pl.En) (len:Nat) (h:SeAt w B F S vv s) (ho:Pl.EndsOk S.length s.ends) (he:Pl.SxFit e.2) (hi:e.1<S.length) (hB:B≤w.heap.size) (ht:TabB B w) :
  Calls Tryz.prog 76 #[.pointer (some ⟨F.g,0,none⟩),qfh e,.int .i64 len] w fun ed w'=>(∃ r,ed=.returned r)∧SeAt w' B F S vv (Pl.qgy S s e len)∧Cue B F w w':=by
 have hwk:=Pl.ql5 (Pl.qiu S 257 s.ends.length (by omega)) (Pl.qaj S e.1) ((Pl.qaj S e.1).length+1) 0 s e.2 ho (Nat.le_refl _) (.inr he)
 have hW:=fun(w5:World) (h5:SeAt w5 B F S vv s) (hb5:B≤w5.heap.size) (t5:TabB B w5)=>qwl HB S hS 257 (behC HB S hS 257) w5 B F vv s e h5 ho (by omega) he hi hb5 t5
 unfold Pl.qgy
 generalize Pl.qdd (Pl.behV S 257) (Pl.qaj S e.1) ((Pl.qaj S e.1).length+1) 0 s e.2=r at hwk hW ⊢
 obtain⟨s2,y⟩:=r
 simp only at hwk hW ⊢
 obtain⟨R,hR⟩:∃ R,R=(if y.isNone=false∧y≠e.2 then s2.wrong S e.1 15 len else s2):=⟨_,rfl⟩
 rw[← hR]
 have HR:=(show Hid _ from hR)
 clear hR
 have hNone:=fun w=>qqv y w
 have HWr:=(show Hid _ from fun(w5:World) (h5:SeAt w5 B F S vv s2) (hb5:B≤w5.heap.size)=>qj5 S w5 B F vv s2 e 15 len h5 hi hb5)
 have HA:=(show Hid _ from h)
 have HT:=(show Hid _ from ht)
 rw[qbh]
 rw[qbh]at hW HWr
 unfold qak bs
 unfold qad qak qab bs at hW
 unfold qad qab bs at hNone
 unfold qak bs at HWr
 have HW:=(show Hid _ from hW)
 have HE:Hid ((w.alloc (.cells (qak e) 180)).heap[w.heap.size]?=some (.cells (qak e) 180 (0,0))):=heap_alloc_new w _
 have HEnd:Hid (∀ w5,Cue B F (w.alloc (.cells (qak e) 180)) w5→w5.heap[w.heap.size]?=some (.cells (qak e) 180 (0,0))):=fun w5 hc=>(hc.keep w.heap.size (by simp) (qaf HE.out (h.alloc _).blk qb1) (qai HE.out (h.alloc _).ends)).trans HE.out
 have HC0:Hid (∀ w5,Cue B F (w.alloc (.cells (qak e) 180)) w5→Cue B F w w5):=fun w5 hc=>(Cue.of_below ((Below.refl w.heap.size w).alloc (Nat.le_refl _) _) hB).trans hc
 unfold qak bs at HEnd HC0
 have HHB:=(show Hid _ from hB)
 clear h ht hW HE
 go_enter Tryz.func76,Tryz.ntmps76
 go_wp2_with fail
 refine(HW.out _ (HA.out.alloc _) (Nat.le_trans HHB.out (by simp)) (TabB.kept HT.out (((Below.refl w.heap.size w).alloc (Nat.le_refl _) _).mono HHB.out))).mono ?_; rintro ed w2 ⟨rfl,hse,hcu⟩
 have HS2:=(show Hid _ from hse)
 have HE2:=(show Hid _ from HEnd.out w2 hcu)
 have HC2:=(show Hid _ from HC0.out w2 hcu)
 clear hse hcu
 have hB2:B≤w2.heap.size:=Nat.le_trans HHB.out HC2.out.below.size
 have HB2:=(show Hid (B≤w2.heap.size) from hB2)
 clear hB2 HW HEnd HC0 HA HT
 by_cases hn:y.isNone=true
 ·have hb:(y.st.mode==0)=true:=hn
  rw[hb]at hNone
  have HN:=(show Hid _ from hn)
  have HQ:Hid (R=s2):=by show _=_; rw[HR.out,if_neg (by rintro⟨h1,_⟩; rw[hn]at h1; cases h1)]
  clear hb hn
  go_wp2_with fail
  refine(hNone _).mono ?_; rintro ed w3 ⟨rfl,hw3⟩
  have H3:Hid (SeAt w3 B F S vv s2∧Cue B F w2 w3):=by rw[← hw3]; exact⟨(HS2.out.alloc _).alloc _,Cue.of_below (((Below.refl _ _).alloc (Nat.le_refl _) _).alloc (by simp) _) HB2.out⟩
  clear hw3
  go_wp2_with fail
  go_end0
  exact⟨⟨_,rfl⟩,by rw[HQ.out]; exact H3.out.1,HC2.out.trans H3.out.2⟩
 ·have hfy:=Pl.qn5 hwk.2 hn
  have hn2:y.isNone=false:=Bool.eq_false_iff.2 hn
  have hb:(y.st.mode==0)=false:=hn2
  rw[hb]at hNone
  have heq:=fun w=>q44 w hfy he
  have hgd:=fun w=>qpb w y e.2
  have heq2:=fun w=>qpc w hfy he
  unfold qad qab bs at heq hgd heq2
  have HN:=(show Hid _ from hn2)
  clear hb hn hn2 hfy hwk
  by_cases hx:y=e.2
  ·rw[decide_eq_true hx]at heq heq2
   have HQ:Hid (R=s2):=by show _=_; rw[HR.out,if_neg (fun q=>q.2 hx)]
   clear hx
   go_wp2_with fail
   refine(hNone _).mono ?_; rintro ed w3 ⟨rfl,hw3⟩
   have H3:Hid (SeAt w3 B F S vv s2∧Cue B F w2 w3):=by rw[← hw3]; exact⟨(HS2.out.alloc _).alloc _,Cue.of_below (((Below.refl _ _).alloc (Nat.le_refl _) _).alloc (by simp) _) HB2.out⟩
   have hy:StIn w3 w2.heap.size y:=by rw[← hw3]; exact(heap_alloc_old _ _ (by simp)).trans (heap_alloc_new _ _)
   have hent:w3.heap[w.heap.size]?=some (.cells (qak e) 180 (0,0)):=(H3.out.2.keep w.heap.size (Array.getElem?_eq_some_iff.1 HE2.out).1 (qaf HE2.out HS2.out.blk qb1) (qai HE2.out HS2.out.ends)).trans HE2.out
   have he3:=qca hent
   unfold qak bs at he3
   have m0:=he3 0 _ rfl
   have m1:=he3 1 _ rfl
   have m2:=he3 2 _ rfl
   have m3:=he3 3 _ rfl
   have m4:=he3 4 _ rfl
   have m5:=he3 5 _ rfl
   have m6:=he3 6 _ rfl
   have m7:=he3 7 _ rfl
   have m8:=he3 8 _ rfl
   have m9:=he3 9 _ rfl
   have m10:=he3 10 _ rfl
   have q0:=hy.at'.mode
   have q1:=hy.at'.name
   have q2:=hy.at'.elem
   have q3:=hy.at'.kind
   have q4:=hy.at'.read
   have q5:=hy.at'.ref
   have q6:=hy.at'.esc
   have q7:=hy.at'.hex
   have q8:=hy.at'.pct
   have q9:=hy.at'.far
   clear he3 hent hy hw3
   go_wp2_with fail
   go_end0
   exact⟨⟨_,rfl⟩,by rw[HQ.out]; exact H3.out.1,HC2.out.trans H3.out.2⟩
  ·rw[decide_eq_false hx]at heq heq2
   have HQ:Hid (R=s2.wrong S e.1 15 len):=by show _=_; rw[HR.out,if_pos ⟨HN.out,hx⟩]
   clear hx
   go_wp2_with fail
   refine(hNone _).mono ?_; rintro ed w3 ⟨rfl,hw3⟩
   have H3:Hid (SeAt w3 B F S vv s2∧Cue B F w2 w3):=by rw[← hw3]; exact⟨(HS2.out.alloc _).alloc _,Cue.of_below (((Below.refl _ _).alloc (Nat.le_refl _) _).alloc (by simp) _) HB2.out⟩
   have hy:StIn w3 w2.heap.size y:=by rw[← hw3]; exact(heap_alloc_old _ _ (by simp)).trans (heap_alloc_new _ _)
   have hent:w3.heap[w.heap.size]?=some (.cells (qak e) 180 (0,0)):=(H3.out.2.keep w.heap.size (Array.getElem?_eq_some_iff.1 HE2.out).1 (qaf HE2.out HS2.out.blk qb1) (qai HE2.out HS2.out.ends)).trans HE2.out
   have he3:=qca hent
   unfold qak bs at he3
   have m0:=he3 0 _ rfl
   have m1:=he3 1 _ rfl
   have m2:=he3 2 _ rfl
   have m3:=he3 3 _ rfl
   have m4:=he3 4 _ rfl
   have m5:=he3 5 _ rfl
   have m6:=he3 6 _ rfl
   have m7:=he3 7 _ rfl
   have m8:=he3 8 _ rfl
   have m9:=he3 9 _ rfl
   have m10:=he3 10 _ rfl
   have q0:=hy.at'.mode
   have q1:=hy.at'.name
   have q2:=hy.at'.elem
   have q3:=hy.at'.kind
   have q4:=hy.at'.read
   have q5:=hy.at'.ref
   have q6:=hy.at'.esc
   have q7:=hy.at'.hex
   have q8:=hy.at'.pct
   have q9:=hy.at'.far
   clear he3 hent hy hw3
   go_wp2_with fail
   refine(HWr.out _ H3.out.1 (Nat.le_trans HB2.out H3.out.2.below.size)).mono ?_; rintro ed w4 ⟨⟨r,rfl⟩,hse,hcu⟩
   go_wp2_with fail
   go_end0
   exact⟨⟨_,rfl⟩,by rw[HQ.out]; exact hse,HC2.out.trans (H3.out.2.trans hcu)⟩
namespace Pl
theorem qf4:∀ N:List (List UInt8),qgm N=true↔∀(i:Nat) (x:List UInt8),N[i]?=some x→qce x=true∧∀ j:Nat,j<i→N[j]?≠some x
 | []=>by simp[qgm]
 | n::l=>by
   unfold qgm
   simp only[Bool.and_eq_true,Bool.not_eq_true',qf4 l]
   constructor
   ·rintro⟨h1,h2,h3⟩ i x hx
    cases i with
    | zero=>
      simp only[List.getElem?_cons_zero,Option.some.injEq]at hx
      subst hx
      exact⟨h1,fun j hj=>absurd hj (Nat.not_lt_zero _)⟩
    | succ i=>
      simp only[List.getElem?_cons_succ]at hx
      refine⟨(h3 i x hx).1,fun j hj=>?_⟩
      cases j with
      | zero=>
        simp only[List.getElem?_cons_zero,ne_eq,Option.some.injEq]
        rintro rfl
        have:l.contains n=true:=List.contains_iff_mem.2 (List.mem_of_getElem? hx)
        rw[this]at h2; cases h2
      | succ j=>
        simp only[List.getElem?_cons_succ]
        exact(h3 i x hx).2 j (by omega)
   ·intro h
    refine⟨(h 0 n rfl).1,?_,fun i x hx=>⟨(h (i+1) x (by simpa using hx)).1,fun j hj=>?_⟩⟩
    ·rw[Bool.eq_false_iff]
     intro q
     obtain⟨i,hi⟩:=List.getElem?_of_mem (List.contains_iff_mem.1 q)
     exact(h (i+1) n (by simpa using hi)).2 0 (by omega) rfl
    ·have:=(h (i+1) x (by simpa using hx)).2 (j+1) (by omega)
     simpa using this
end Pl
structure PsAt (w:World) (b:Nat) (L:List (ByteArray×ByteArray)):Prop where
 name:∀ k x,L[k]?=some x→w.cell? ⟨b,k*2,none⟩=some (.string x.1)
 text:∀ k x,L[k]?=some x→w.cell? ⟨b,k*2+1,none⟩=some (.string x.2)
def qch (L:List (ByteArray×ByteArray)):List (List UInt8):=L.map fun x=>x.1.data.toList
theorem q4n {a b:ByteArray} (h:a≠b):(a.toList==b.toList)=false:=by
 rw[beq_eq_false_iff_ne,ByteArray.toList_eq,ByteArray.toList_eq]
 exact fun q=>h (ByteArray.ext (Array.toList_inj.1 q))
theorem qym {L:List (ByteArray×ByteArray)} {k:Nat} {x:List UInt8} (h:(qch L)[k]?=some x):∃ y,L[k]?=some y∧y.1.data.toList=x:=by
 unfold qch at h
 rw[List.getElem?_map]at h
 obtain⟨y,h1,h2⟩:=Option.map_eq_some_iff.1 h
 exact⟨y,h1,h2⟩
set_option maxRecDepth 100000 in
set_option maxHeartbeats 3200000 in
theorem quf (ao:Option Addr) (cap:Nat) (w:World) :
  Calls Tryz.prog 43 #[.slice ao 0 cap] w fun e w'=>e=.returned (.bool true)∧w=w':=by
 go_enter Tryz.func43,Tryz.ntmps43
 go_wp2_with fail
 go_loop [10] (fun i=>i=.int .i64 0) (fun _=>0)
 case atStart=>rfl
 case round=>
  obtain rfl:=hrel
  go_wp2
  go_ret
  exact⟨rfl,rfl⟩
set_option maxRecDepth 100000 in
set_option maxHeartbeats 3200000 in
theorem qug (ao:Option Addr) (n cap:Nat) (w:World) (hn:6<n) :
  Calls Tryz.prog 43 #[.slice ao n cap] w fun e w'=>e=.returned (.bool false)∧w=w':=by
 have c1:(6:Int)<(n:Int):=by omega
 clear hn
 go_enter Tryz.func43,Tryz.ntmps43
 go_wp2_with fail
 go_ret
 exact⟨rfl,rfl⟩
set_option maxRecDepth 100000 in
set_option maxHeartbeats 3200000 in
theorem que (b cap:Nat) (L:List (ByteArray×ByteArray)) (w:World) (h:PsAt w b L) (hn:L.length≤6) :
  Calls Tryz.prog 43 #[.slice (some ⟨b,0,none⟩) L.length cap] w fun e w'=>e=.returned (.bool (Pl.qgm (qch L)))∧∃ m,w'=w.drewN m:=by
 have HA:=(show Hid (PsAt w b L) from h)
 have c1:¬(6:Int)<(L.length:Int):=by omega
 clear h
 go_enter Tryz.func43,Tryz.ntmps43
 go_wp2_with fail
 clear c1
 go_loopw [10] (fun i wr=>∃ k:Nat,k≤L.length∧i=.int .i64 k∧Hid (∀ i x,i<k→(qch L)[i]?=some x→Pl.qce x=true∧∀ j,j<i→(qch L)[j]?≠some x)∧∃ m,wr=w.drewN m) (fun i _=>L.length - (intOf i).toNat)
 case atStart=>exact⟨0,Nat.zero_le _,rfl,fun i x hi=>absurd hi (Nat.not_lt_zero _),0,rfl⟩
 case round=>
  obtain⟨k,hk,rfl,HN,m,rfl⟩:=hrel
  by_cases hlt:k<L.length
  rotate_left
  ·have HT:Hid (Pl.qgm (qch L)=true):=(Pl.qf4 _).2 fun i x hx=>HN.out i x (by
    have:=(List.getElem?_eq_some_iff.1 hx).1
    unfold qch at this
    simp at this
    omega) hx
   clear HN HA
   go_wp2
   go_ret
   exact⟨qax HT.out.symm,m,rfl⟩
  have hx:L[k]?=some L[k]:=List.getElem?_eq_getElem hlt
  have HX:=(show Hid (L[k]?=some L[k]) from hx)
  have q0:w.cell? ⟨b,k*2,none⟩=some (.string L[k].1):=HA.out.name k _ hx
  have hNx:(qch L)[k]?=some L[k].1.data.toList:=by unfold qch; simp[hx]
  have HNX:=(show Hid _ from hNx)
  clear hx hNx
  generalize L[k]=X at q0 HX HNX
  by_cases hi:Pl.qce X.1.data.toList=true
  rotate_left
  ·have hi:=Bool.eq_false_iff.2 hi
   have HT:Hid (Pl.qgm (qch L)=false):=by
    show _=_
    rw[Bool.eq_false_iff]
    intro q
    have:=((Pl.qf4 _).1 q k _ HNX.out).1
    rw[hi]at this; cases this
   clear HN HA HX HNX
   go_wp2_with (go_at_call 72; refine(qco X.1 _).mono ?_; rintro e w' ⟨rfl,rfl⟩; rw[hi])
   go_ret
   exact⟨qax HT.out.symm,m,rfl⟩
  have HI:=(show Hid _ from hi)
  go_wp2_with (go_at_call 72; refine(qco X.1 _).mono ?_; rintro e w' ⟨rfl,rfl⟩; rw[hi])
  clear hi q0
  go_hide hQ
  have HQ:=(show Hid _ from hQ)
  clear hQ
  go_loopw [21] (fun i wr=>∃ j:Nat,j≤k∧i=.int .i64 j∧Hid (∀ j',j'<j→(qch L)[j']?≠some X.1.data.toList)∧Hid (∃ m',wr=w.drewN m')) (fun i _=>k - (intOf i).toNat)
  case atStart=>exact⟨0,Nat.zero_le _,rfl,fun j' hj=>absurd hj (Nat.not_lt_zero _),m,rfl⟩
  case round=>
   obtain⟨j,hj,rfl,HJ,HW⟩:=hrel
   obtain⟨m',rfl⟩:=HW.out
   clear HW
   by_cases hjl:j<k
   ·have hjL:j<L.length:=by omega
    have hy:L[j]?=some L[j]:=List.getElem?_eq_getElem hjL
    have HY:=(show Hid (L[j]?=some L[j]) from hy)
    have p0:w.cell? ⟨b,j*2,none⟩=some (.string L[j].1):=HA.out.name j _ hy
    have p1:w.cell? ⟨b,k*2,none⟩=some (.string X.1):=HA.out.name k _ HX.out
    clear hy
    generalize L[j]=Y at p0 HY
    have d1:(j:Int)<(L.length:Int):=by omega
    have d2:(k:Int)<(L.length:Int):=by omega
    by_cases e0:Y.1=X.1
    ·have HT:Hid (Pl.qgm (qch L)=false):=by
      show _=_
      rw[Bool.eq_false_iff]
      intro q
      refine((Pl.qf4 _).1 q k _ HNX.out).2 j hjl ?_
      show (qch L)[j]?=some X.1.data.toList
      unfold qch
      rw[List.getElem?_map,HY.out,← e0]; rfl
     rw[e0]at p0
     clear HN HA HX HNX HJ HY e0
     go_wp2_with fail
     go_quiet (fail)
     go_wp2_with fail
     rw[← HQ.out]
     go_wp2_with fail
     go_ret
     exact⟨qax HT.out.symm,m'+nq,by rw[World.drewN_drewN]⟩
    ·have t0:=q4n e0
     have HJ2:Hid (∀ j',j'<j+1→(qch L)[j']?≠some X.1.data.toList):=by
      intro j' hj'
      by_cases hjj:j'=j
      ·subst hjj
       intro q
       obtain⟨y,h1,h2⟩:=qym q
       rw[HY.out]at h1
       obtain rfl:=Option.some.inj h1
       exact e0 (ByteArray.ext (Array.toList_inj.1 h2))
      ·exact HJ.out j' (by omega)
     clear HN HX HNX HJ HY e0
     go_wp2_with fail
     go_quiet (fail)
     go_wp2_with fail
     go_roundw
     case rel=>exact⟨j+1,by omega,by go_num,HJ2,⟨m'+nq,by simp[World.drewN]⟩⟩
     case measure=>simp[intOf]; omega
   ·have hjk:j=k:=by omega
    subst hjk
    have HN2:Hid (∀ i x,i<j+1→(qch L)[i]?=some x→Pl.qce x=true∧∀ j',j'<i→(qch L)[j']?≠some x):=by
     intro i x hi' hx
     by_cases hij:i=j
     ·subst hij
      rw[HNX.out]at hx
      obtain rfl:=Option.some.inj hx
      exact⟨HI.out,HJ.out⟩
     ·exact HN.out i x (by omega) hx
    clear HN HX HNX HJ HA
    go_wp2_with fail
    rw[← HQ.out]
    go_wp2_with fail
    go_roundw
    case rel=>exact⟨j+1,by omega,by go_num,HN2,m',rfl⟩
    case measure=>simp[intOf]; omega
end Go.Proofs.YtfkhljmiehdgmaaGreatDoor
