/-
  Steps of the proof (texts laid together, blanks left out): TgC, EnBase, PcE, PgF, PgD, PgMkB, PgMkO, PgV, PgVa, PgVd, PgVe, PcD.
-/
import Derived.Lib.SplitLaws
import Derived.Test.YtfkhljmiehdgmaaGreatDoorTaAD
import Derived.Test.YtfkhljmiehdgmaaGreatDoorCards
import Derived.Test.YtfkhljmiehdgmaaGreatDoorTie
import Derived.Deep.DeepHandedRow
import Derived.Shelf.Vars
import Derived.Test.YtfkhljmiehdgmaaGreatDoorTaAA
import Derived.Test.YtfkhljmiehdgmaaGreatDoorTaAB
namespace Go.Proofs.YtfkhljmiehdgmaaGreatDoor
open Go.RowKit
def qdl (o:Pl.Tg):Value:=.agg #[.int .i64 o.kind,.int .i64 o.slip,bs o.name,bs o.op,bs o.cl]
def qky (o:Pl.Tg):Array Value:=#[.int .i64 o.kind,.int .i64 o.slip,bs o.name,bs o.op,bs o.cl]
theorem qzm (s:ByteArray) (h:0<s.size):∃ b l,s.data.toList=b::l∧b=s[0]:=by
 have:=Pl.qww s 0 h
 exact⟨s[0],s.data.toList.drop 1,by simpa using this,rfl⟩
set_option maxRecDepth 100000 in
set_option maxHeartbeats 1600000 in
theorem qft (s:ByteArray) (w:World) :
  Calls Tryz.prog 193 #[.string s] w fun e w'=>e=.returned (.int .i64 (Pl.qa6 s.data.toList))∧w=w':=by
 by_cases h0:s.size=0
 ·obtain rfl:s=⟨#[]⟩:=ByteArray.ext (Array.eq_empty_of_size_eq_zero h0)
  go_enter Tryz.func193,Tryz.ntmps193
  go_wp2_with fail
  go_ret
  exact⟨rfl,rfl⟩
 have c0:(s.toList.isEmpty)=false:=by
  rw[Lib.toList_data,List.isEmpty_eq_false_iff]
  intro q
  apply h0
  have:=congrArg List.length q
  simpa using this
 obtain⟨b,l,hl,hb⟩:=qzm s (by omega)
 have c1:(0:Int)<(s.size:Int):=by omega
 have HV:Hid (Pl.qa6 s.data.toList=if s[0]=33 then 7 else if s[0]=61 then 8 else if s[0]=35 then 3 else if s[0]=94 then 4 else if s[0]=47 then 5 else if s[0]=62 then 6 else 2):=by
  show _=_
  rw[hl]
  unfold Pl.qa6
  rw[hb]
 have ne:∀ n:UInt8,s[0]≠n→∀ z:Int,z=n.toNat→¬(s[0].toNat:Int)=z:=fun n hne z hz q=>hne (UInt8.toNat_inj.1 (by omega))
 clear hl hb h0
 by_cases d1:s[0]=33
 ·have e1:(s[0].toNat:Int)=33:=by rw[d1]; rfl
  have HT:Hid (Pl.qa6 s.data.toList=7):=by show _=_; rw[HV.out,d1]; rfl
  clear HV d1 ne
  go_enter Tryz.func193,Tryz.ntmps193
  go_wp2_with fail
  go_ret
  exact⟨qa5 (by rw[HT.out]; rfl),rfl⟩
 have e1:=ne 33 d1 33 rfl
 by_cases d2:s[0]=61
 ·have e2:(s[0].toNat:Int)=61:=by rw[d2]; rfl
  have HT:Hid (Pl.qa6 s.data.toList=8):=by show _=_; rw[HV.out,d2]; rfl
  clear HV d1 d2 ne
  go_enter Tryz.func193,Tryz.ntmps193
  go_wp2_with fail
  go_ret
  exact⟨qa5 (by rw[HT.out]; rfl),rfl⟩
 have e2:=ne 61 d2 61 rfl
 by_cases d3:s[0]=35
 ·have e3:(s[0].toNat:Int)=35:=by rw[d3]; rfl
  have HT:Hid (Pl.qa6 s.data.toList=3):=by show _=_; rw[HV.out,d3]; rfl
  clear HV d1 d2 d3 ne
  go_enter Tryz.func193,Tryz.ntmps193
  go_wp2_with fail
  go_ret
  exact⟨qa5 (by rw[HT.out]; rfl),rfl⟩
 have e3:=ne 35 d3 35 rfl
 by_cases d4:s[0]=94
 ·have e4:(s[0].toNat:Int)=94:=by rw[d4]; rfl
  have HT:Hid (Pl.qa6 s.data.toList=4):=by show _=_; rw[HV.out,d4]; rfl
  clear HV d1 d2 d3 d4 ne
  go_enter Tryz.func193,Tryz.ntmps193
  go_wp2_with fail
  go_ret
  exact⟨qa5 (by rw[HT.out]; rfl),rfl⟩
 have e4:=ne 94 d4 94 rfl
 by_cases d5:s[0]=47
 ·have e5:(s[0].toNat:Int)=47:=by rw[d5]; rfl
  have HT:Hid (Pl.qa6 s.data.toList=5):=by show _=_; rw[HV.out,d5]; rfl
  clear HV d1 d2 d3 d4 d5 ne
  go_enter Tryz.func193,Tryz.ntmps193
  go_wp2_with fail
  go_ret
  exact⟨qa5 (by rw[HT.out]; rfl),rfl⟩
 have e5:=ne 47 d5 47 rfl
 by_cases d6:s[0]=62
 ·have e6:(s[0].toNat:Int)=62:=by rw[d6]; rfl
  have HT:Hid (Pl.qa6 s.data.toList=6):=by show _=_; rw[HV.out,d6]; rfl
  clear HV d1 d2 d3 d4 d5 d6 ne
  go_enter Tryz.func193,Tryz.ntmps193
  go_wp2_with fail
  go_ret
  exact⟨qa5 (by rw[HT.out]; rfl),rfl⟩
 have e6:=ne 62 d6 62 rfl
 have HT:Hid (Pl.qa6 s.data.toList=2):=by show _=_; rw[HV.out,if_neg d1,if_neg d2,if_neg d3,if_neg d4,if_neg d5,if_neg d6]
 clear HV d1 d2 d3 d4 d5 d6 ne
 go_enter Tryz.func193,Tryz.ntmps193
 go_wp2_with fail
 go_ret
 exact⟨qa5 (by rw[HT.out]; rfl),rfl⟩
def qay (w:World):Prop:=∃ m:Int,w.cell? ⟨11,0,none⟩=some (.int .i64 m)
theorem qay.below {w w':World} (h:qay w) (hb:Below w.heap.size w w'):qay w':=by
 obtain⟨m,hm⟩:=h
 exact⟨m,(World.cell?_of_block (hb.block _ (World.block_lt_of_cell? _ _ hm))).trans hm⟩
theorem q32 (l:List UInt8) (h:l≠[46]):Pl.isNm l=(decide ((Lib.split l [46]).length≤4) && (Lib.split l [46]).all Pl.qce):=by
 unfold Pl.isNm
 rw[beq_eq_false_iff_ne.2 h]; rfl
set_option maxRecDepth 100000 in
set_option maxHeartbeats 1600000 in
theorem qy1 (s:ByteArray) (w:World) (hs:s.size≤100000) (hm:qay w) :
  Calls Tryz.prog 230 #[.string s] w fun e w'=>e=.returned (.bool (Pl.isNm s.data.toList))∧Below w.heap.size w w':=by
 obtain⟨m,hm⟩:=hm
 by_cases h0:s.data.toList=[46]
 ·obtain rfl:s=⟨#[46]⟩:=ByteArray.ext (Array.toList_inj.1 h0)
  clear hm
  go_enter Tryz.func230,Tryz.ntmps230
  go_wp2_with fail
  go_ret
  exact⟨rfl,Below.refl _ _⟩
 have c0:(s.toList==[46])=false:=by rw[Lib.toList_data]; exact beq_eq_false_iff_ne.2 h0
 have HV:=(show Hid _ from q32 _ h0)
 have HS:=(show Hid _ from Tryz.strings_Split s ⟨#[46]⟩ m w (by omega) hm (by decide))
 have hlen:(Lib.splitB ⟨#[46]⟩ 0 (Lib.countB s ⟨#[46]⟩) s).length=Lib.countB s ⟨#[46]⟩+1:=Lib.splitB_all ⟨#[46]⟩ (by decide) 0 _ s rfl
 have hdat:(Lib.splitB ⟨#[46]⟩ 0 (Lib.countB s ⟨#[46]⟩) s).map (·.data.toList)=Lib.split s.data.toList [46]:=Lib.splitB_data ⟨#[46]⟩ 0 _ s
 have hcb:Lib.countB s ⟨#[46]⟩≤s.size:=Lib.countB_le ⟨#[46]⟩ (by decide) _ s (Nat.le_refl _)
 clear hm h0
 generalize Lib.countB s ⟨#[46]⟩=c at HS hlen hdat hcb
 generalize Lib.splitB ⟨#[46]⟩ 0 c s=L at HS hlen hdat
 have HC:Hid (∀(k:Nat) (x:ByteArray),L[k]?=some x→(w.alloc (.cells (L.map Value.string).toArray 9)).cell? ⟨w.heap.size,k,none⟩=some (.string x)):=by
  intro k x hx
  refine qaa (heap_alloc_new w _) k _ ?_
  simp[hx]
 have HB:Hid (Below w.heap.size w (w.alloc (.cells (L.map Value.string).toArray 9))):=(Below.refl _ _).alloc (Nat.le_refl _) _
 have hl2:(Lib.split s.data.toList [46]).length=c+1:=by rw[← hdat]; simpa using hlen
 have HA:Hid ((Lib.split s.data.toList [46]).all Pl.qce=L.all (fun x=>Pl.qce x.data.toList)):=by show _=_; rw[← hdat,List.all_map]; rfl
 rw[hl2]at HV
 have HL:=(show Hid _ from hlen)
 clear hlen hdat hl2
 by_cases h4:c+1≤4
 rotate_left
 ·have HT:Hid (Pl.isNm s.data.toList=false):=by show _=_; rw[HV.out,decide_eq_false h4]; rfl
  have c4:(4:Int)<((c+1:Nat):Int):=by omega
  clear HV HA HC h4 HL
  go_enter Tryz.func230,Tryz.ntmps230
  go_wp2_with (go_at_call 242; refine Calls.mono HS.out ?_; rintro e w' ⟨rfl,rfl⟩)
  go_ret
  exact⟨qax HT.out.symm,HB.out⟩
 have HT:Hid (Pl.isNm s.data.toList=L.all (fun x=>Pl.qce x.data.toList)):=by show _=_; rw[HV.out,HA.out,decide_eq_true h4]; rfl
 have c4:¬(4:Int)<((c+1:Nat):Int):=by omega
 clear HV HA
 go_enter Tryz.func230,Tryz.ntmps230
 go_wp2_with (go_at_call 242; refine Calls.mono HS.out ?_; rintro e w' ⟨rfl,rfl⟩)
 generalize w.alloc (.cells (L.map Value.string).toArray 9)=W at HC HB ⊢
 clear HS c0
 go_loopw [15] (fun i wr=>∃ k:Nat,k≤c+1∧i=.int .i64 k∧Hid ((L.take k).all (fun x=>Pl.qce x.data.toList)=true)∧wr=W) (fun i _=>c+1 - (intOf i).toNat)
 case atStart=>exact⟨0,Nat.zero_le _,rfl,rfl,rfl⟩
 case round=>
  obtain⟨k,hk,rfl,HN,rfl⟩:=hrel
  by_cases hlt:k<c+1
  ·have hkl:k<L.length:=by have:=HL.out; omega
   have hx:L[k]?=some L[k]:=List.getElem?_eq_getElem hkl
   have q0:=HC.out k _ hx
   have HX:=(show Hid _ from hx)
   clear hx
   generalize L[k]=X at q0 HX
   by_cases hi:Pl.qce X.data.toList=true
   ·have HT2:Hid ((L.take (k+1)).all (fun x=>Pl.qce x.data.toList)=true):=by
     show _=_
     rw[List.take_add_one,HX.out,List.all_append,HN.out]; simp[hi]
    clear HN HX
    go_wp2_with (go_at_call 72; refine(qco X _).mono ?_; rintro e w' ⟨rfl,rfl⟩; rw[hi])
    go_roundw
    case rel=>exact⟨k+1,by omega,by go_num,HT2,trivial⟩
    case measure=>simp[intOf]; omega
   ·have hi:=Bool.eq_false_iff.2 hi
    have HT2:Hid (L.all (fun x=>Pl.qce x.data.toList)=false):=by
     show _=_
     rw[List.all_eq_false]
     exact⟨X,List.mem_of_getElem? HX.out,by rw[hi]; decide⟩
    clear HN HX
    go_wp2_with (go_at_call 72; refine(qco X _).mono ?_; rintro e w' ⟨rfl,rfl⟩; rw[hi])
    go_ret
    exact⟨qax (by rw[HT.out,HT2.out]),HB.out⟩
  ·have HT2:Hid (L.all (fun x=>Pl.qce x.data.toList)=true):=by
    show _=_
    have h1:=HN.out
    rw[List.take_of_length_le (by have:=HL.out; omega)]at h1
    exact h1
   clear HN
   go_wp2
   go_ret
   exact⟨qax (by rw[HT.out,HT2.out]),HB.out⟩
end Go.Proofs.YtfkhljmiehdgmaaGreatDoor
namespace Go.Proofs.YtfkhljmiehdgmaaGreatDoor
open Go.ChangeShapes Go.WideShapes Go.ChangeAt Go.RowKit
theorem q81:ownKnob Tryz.prog.godebug=none:=by kernel_rfl
theorem gMt:Tryz.prog.globalNamed "stencil/markup.markupSteps"=some 4:=by kernel_rfl
theorem gCt:Tryz.prog.globalNamed "stencil/markup.contentSteps"=some 5:=by kernel_rfl
theorem gRd:Tryz.prog.globalNamed "stencil/markup.readIn"=some 1:=by kernel_rfl
theorem gOt:Tryz.prog.globalNamed "stencil/markup.others"=some 2:=by kernel_rfl
theorem gEs:Tryz.prog.globalNamed "stencil/markup.escapes"=some 0:=by kernel_rfl
theorem gEl:Tryz.prog.globalNamed "stencil/markup.elements"=some 6:=by kernel_rfl
theorem gAt:Tryz.prog.globalNamed "stencil/markup.attributes"=some 10:=by kernel_rfl
theorem gLe:Tryz.prog.globalNamed "stencil/markup.longEscapes"=some 3:=by kernel_rfl
theorem tLe:(Tryz.prog.globals[3]?).map (·.type)=some 252:=by kernel_rfl
theorem pLe:qfp Tryz.prog 4 252=true:=by kernel_rfl
theorem dLe:qfj 4 (Rows.laid_stencil_markup_longEscapes (H:=Unit))=qnr:=rfl
theorem tMt:(Tryz.prog.globals[4]?).map (·.type)=some 255:=by kernel_rfl
theorem tCt:(Tryz.prog.globals[5]?).map (·.type)=some 256:=by kernel_rfl
theorem tRd:(Tryz.prog.globals[1]?).map (·.type)=some 216:=by kernel_rfl
theorem tOt:(Tryz.prog.globals[2]?).map (·.type)=some 216:=by kernel_rfl
theorem tEs:(Tryz.prog.globals[0]?).map (·.type)=some 213:=by kernel_rfl
theorem tEl:(Tryz.prog.globals[6]?).map (·.type)=some 293:=by kernel_rfl
theorem tAt:(Tryz.prog.globals[10]?).map (·.type)=some 327:=by kernel_rfl
theorem pMt:qfp Tryz.prog 4 255=true:=by kernel_rfl
theorem pCt:qfp Tryz.prog 4 256=true:=by kernel_rfl
theorem pRd:qfp Tryz.prog 4 216=true:=by kernel_rfl
theorem pEs:qfp Tryz.prog 4 213=true:=by kernel_rfl
theorem pEl:qfp Tryz.prog 4 293=true:=by kernel_rfl
theorem pAt:qfp Tryz.prog 4 327=true:=by kernel_rfl
theorem dMt:qfj 4 (Rows.laid_stencil_markup_markupSteps (H:=Unit))=qid Pl.qbs:=rfl
theorem dCt:qfj 4 (Rows.laid_stencil_markup_contentSteps (H:=Unit))=qid Pl.qbf:=rfl
theorem dRd:qfj 4 (Rows.laid_stencil_markup_readIn (H:=Unit))=qhd Pl.qbi:=rfl
theorem dOt:qfj 4 (Rows.laid_stencil_markup_others (H:=Unit))=qhd Pl.qar:=rfl
theorem dEs:qfj 4 (Rows.laid_stencil_markup_escapes (H:=Unit))=qks Pl.qat:=rfl
theorem dEl:qfj 4 (Rows.laid_stencil_markup_elements (H:=Unit))=qn6:=rfl
theorem dAt:qfj 4 (Rows.laid_stencil_markup_attributes (H:=Unit))=qoi:=rfl
theorem q04 {W:World} (h:W.ShapedOpen Tryz.prog):qay W:=
 cell_of_shapedOpen_int (zero:=#[.int .i64 0]) h (by decide +kernel) (by kernel_rfl) rfl (by kernel_rfl) (by kernel_rfl) Tryz.underlying3
end Go.Proofs.YtfkhljmiehdgmaaGreatDoor
namespace Go.Proofs.YtfkhljmiehdgmaaGreatDoor.Pl
theorem q2c (t:List UInt8):∀(n m:Nat) (c:Ct) (a:Nat),CtOk t c a→t.length - a<n→t.length - a<m→Ct.go t n c a=Ct.go t m c a:=by
 intro n
 induction n with
 | zero=>intro m c a _ h _; omega
 | succ n ih=>
   intro m c a hc hn hm
   obtain⟨m,rfl⟩:∃ k,m=k+1:=⟨m - 1,by omega⟩
   unfold Ct.go
   cases hs:c.step t a with
   | slip k p=>rfl
   | over d=>rfl
   | next d b=>
     obtain⟨h1,h2⟩:=qfi hc hs
     have:=h1.le
     exact ih m d b h1 (by omega) (by omega)
def Ct.rest (t:List UInt8) (c:Ct) (a:Nat):(Nat×Nat)×List Pt:=Ct.go t (t.length - a+1) c a
theorem qne {t:List UInt8} {c d:Ct} {a b:Nat} (h:CtOk t c a) (hs:c.step t a=.next d b):c.rest t a=d.rest t b:=by
 obtain⟨h1,h2⟩:=qfi h hs
 have:=h1.le
 unfold Ct.rest
 have e:Ct.go t (t.length - a+1) c a=Ct.go t (t.length - a) d b:=by
  conv=>lhs; unfold Ct.go
  rw[hs]
 rw[e]
 exact q2c t _ _ d b h1 (by omega) (by omega)
theorem qnd {t:List UInt8} {c:Ct} {a k p:Nat} (hs:c.step t a=.slip k p):c.rest t a=((k,p),[]):=by
 unfold Ct.rest Ct.go
 rw[hs]
theorem qsm {t:List UInt8} {c d:Ct} {a:Nat} (hs:c.step t a=.over d):c.rest t a=(d.left,d.parts):=by
 unfold Ct.rest Ct.go
 rw[hs]
theorem qjz (t:List UInt8) (h:t.length≤2000):qav t=if(Ct.start.rest t 0).1.1=0 then((0,0),(Ct.start.rest t 0).2) else((Ct.start.rest t 0).1,[]):=by
 unfold qav Ct.rest
 rw[if_neg (by omega)]
 rfl
theorem qkd {t:List UInt8} {c:Ct} {a:Nat} (h:(Go.Lib.cut (t.drop a) c.op).2.2=false):c.step t a=.over (c.addText t a t.length):=by
 unfold Ct.step; rw[if_pos h]
theorem qhm {t:List UInt8} {c:Ct} {a:Nat} (h:(Go.Lib.cut (t.drop a) c.op).2.2=true) (h2:(Go.Lib.cut (Go.Lib.cut (t.drop a) c.op).2.1 c.cl).2.2=false):c.step t a=.slip 2 (a+(Go.Lib.cut (t.drop a) c.op).1.length):=by
 unfold Ct.step; rw[if_neg (by rw[h]; simp)]; simp only[h2,if_true]
theorem ql8 {t:List UInt8} {c:Ct} {a:Nat} (h:(Go.Lib.cut (t.drop a) c.op).2.2=true) (h2:(Go.Lib.cut (Go.Lib.cut (t.drop a) c.op).2.1 c.cl).2.2=true) (one:Tg) (h1:qcg (Go.Lib.trimS (Go.Lib.cut (Go.Lib.cut (t.drop a) c.op).2.1 c.cl).1 qbc)=one)
  (p tz:Nat) (hp:a+(Go.Lib.cut (t.drop a) c.op).1.length=p) (hto:p+c.op.length+(Go.Lib.cut (Go.Lib.cut (t.drop a) c.op).2.1 c.cl).1.length+c.cl.length=tz) (o:Nat×Nat) (ho:(if one.kind≠2 then qdr t p tz else(p,tz))=o) :
  c.step t a=if((c.addText t a o.1).take one p).1≠0 then .slip ((c.addText t a o.1).take one p).1 p else .next ((c.addText t a o.1).take one p).2 o.2:=by
 subst ho hto hp h1
 unfold Ct.step; rw[if_neg (by rw[h]; simp)]; simp only[h2,Bool.true_eq_false,if_false]
structure Sp where
 mode:Int
 tag:List UInt8
 attr:List UInt8
 inside:List UInt8
 run:List UInt8
 far:Int
def Sp.start:Sp:=⟨1,[],[],[],[],0⟩
def q5d (n:List UInt8):Nat:=if n=qfc then 1 else if n=qiv then 2 else if n=qdm then 3 else if n=qek then 4 else 0
def q5z (n:List UInt8):List UInt8:=60::47::n
def q8s (inside e:List UInt8) (n:Nat):Bool:=decide (n≤inside.length) && ((inside.drop (inside.length - n)).map small==e.take n)
def q46 (inside e:List UInt8):Nat→Nat
 | 0=>0
 | n+1=>if q8s inside e (n+1) then n+1 else q46 inside e n
def Sp.read (p:Sp):Nat:=q46 p.inside (q5z p.tag) (q5z p.tag).length
def q31 (m:Int):Bool:=m==21 || (m==22 || (m==23 || (m==29 || m==30)))
def qnz:List UInt8:=[48,49,50,51,52,53,54,55,56,57,97,98,99,100,101,102,65,66,67,68,69,70]
def q65 (css:Bool) (left:Int) (b:UInt8):Int:=
 if left=1 then(if(css && qa0 b qnz)=true then 6 else if(!css && b==120)=true then 3 else if(!css && b==117)=true then 5 else 0)
 else if 1<left∧qa0 b qnz=true then(if left - 1=1 then 0 else left - 1)
 else if b=92 then 1 else 0
def q66 (css:Bool) (run:List UInt8):Int:=run.foldl (q65 css) 0
def qz5 (s:List UInt8):List UInt8:=if 12<s.length then s.drop (s.length - 12) else s
def q3a:List UInt8:=[97,98,99,100,101,102,103,104,105,106,107,108,109,110,111,112,113,114,115,116,117,118,119,120,121,122,65,66,67,68,69,70,71,72,73,74,75,76,77,78,79,80,81,82,83,84,85,86,87,88,89,90,48,49,50,51,52,53,54,55,56,57,35]
def refR:List UInt8→Bool
 | []=>false
 | b::l=>if b=38 then true else if qa0 b q3a=true then refR l else false
def q7s (run:List UInt8):Bool:=refR run.reverse
def qu7 (m:Int):Bool:=decide (28≤m)
def kept (m:Int) (run:List UInt8):List UInt8:=
 if q31 m=true then(if q66 (qu7 m) run=0 then[] else run)
 else if q7s run=true then[38] else if m=1∨m=19 then[] else if 2<run.length then run.drop (run.length - 2) else run
def qsa:List UInt8:=[97,98,99,100,101,102,103,104,105,106,107,108,109,110,111,112,113,114,115,116,117,118,119,120,121,122,65,66,67,68,69,70,71,72,73,74,75,76,77,78,79,80,81,82,83,84,85,86,87,88,89,90]
def bl:List UInt8:=[9,10,12,13,32]
def bls:List UInt8:=[9,10,12,13,32,47]
def q57:List (List (List UInt8×Int)):=[[],
 [([60],2)],
 [(qsa,3),([47],11),([33],13),([],-2)],
 [(bls,4),([62],-1)],
 [(bls,4),([62],-1),([],5)],
 [(bl,6),([61],7),([47],4),([62],-1)],
 [(bl,6),([61],7),([47],4),([62],-1),([],5)],
 [(bl,7),([34],8),([39],9),([62],-1),([],10)],
 [([34],4)],
 [([39],4)],
 [(bl,4),([62],-1)],
 [(qsa,12),([62],1),([],18)],
 [([62],1)],
 [([45],14),([62],1),([],18)],
 [([45],15),([62],1),([],18)],
 [([45],16)],
 [([45],17),([],15)],
 [([62],1),([45],17),([],15)],
 [([62],1)]]
def q33:List (List (List UInt8×Int)):=[
 [([34],21),([39],22),([96],23),([47],24)],
 [([34,10],20)],
 [([39,10],20)],
 [([96],20)],
 [([47],25),([42],26),([],-2)],
 [([10],20)],
 [([42],27)],
 [([47],20),([42],27),([],26)],
 [([34],29),([39],30),([47],31)],
 [([34,10],28)],
 [([39,10],28)],
 [([42],32),([],-2)],
 [([42],33)],
 [([47],28),([42],33),([],32)]]
def q3j (m:Nat):List (List UInt8×Int):=q57.getD m []
def q1i (m:Nat):List (List UInt8×Int):=q33.getD (m - 20) []
def q7q (m:Nat):List (List UInt8×Int):=if 20≤m then q1i m else q3j m
def q7r (b:UInt8) (r:List UInt8×Int):Bool:=r.1==[] || qa0 b r.1
def tgt (m:Nat) (b:UInt8):Int:=match (q7q m).find? (q7r b) with
 | some r=>r.2
 | none=>m
def q5b (s:List UInt8):List UInt8:=if 9<s.length then s.take 9 else s
def q63 (far:Int) (b:UInt8):Int:=if(b==47 || (b==63 || (b==35 || (b==58 && far != 4))))=true then 1 else if far=2 then 3 else far
def Sp.named (p:Sp) (m:Nat) (b:UInt8) (tz:Int):Sp:=
 if 19≤tz then⟨0,p.tag,[],p.inside,[],0⟩
 else if tz=3 then⟨0,if m=2 then[small b] else q5b (p.tag++[small b]),[],p.inside,[],0⟩
 else if tz=5 then⟨0,p.tag,if m=5 then q5b (p.attr++[small b]) else[small b],p.inside,[],0⟩
 else if tz=6∨tz=7∨tz=8∨tz=9 then⟨0,p.tag,p.attr,p.inside,[],0⟩
 else if tz=4∨tz=10 then⟨0,p.tag,[],p.inside,[],0⟩
 else⟨0,[],[],p.inside,[],0⟩
def runs (tz:Int):Bool:=tz==1 || (tz==8 || (tz==9 || q31 tz))
def Sp.step1 (p:Sp) (m:Nat) (b:UInt8):Sp:=
 if tgt m b=-1 then(if qhf p.tag=1 then Sp.start else⟨qhf p.tag,p.tag,[],[],[],0⟩)
 else⟨tgt m b,(p.named m b (tgt m b)).tag,(p.named m b (tgt m b)).attr,(p.named m b (tgt m b)).inside,
  if tgt m b=m∧runs (tgt m b)=true then kept (tgt m b) (p.run++[b]) else[],
  if tgt m b=8∨tgt m b=9 then(if tgt m b=m then q63 p.far b else 2) else 0⟩
def qxh (m:Nat):Nat:=if m=24 then 20 else if m=31 then 28 else 1
def Sp.step (p:Sp) (m:Nat) (b:UInt8):Sp:=
 if tgt m b=-2 then(Sp.mk (qxh m) p.tag p.attr p.inside [] p.far).step1 (qxh m) b else p.step1 m b
def Sp.element (p:Sp) (m:Nat) (b:UInt8):Sp:=
 if p.read=(q5z p.tag).length∧qa0 b qgx=true then(if b=62 then Sp.start else⟨12,[],[],[],[],0⟩)
 else if q31 m=true∧q66 (qu7 m) p.run=1 then⟨m,p.tag,p.attr,qz5 (p.inside++[b]),p.run++[b],p.far⟩
 else if m=19 then⟨m,p.tag,p.attr,qz5 (p.inside++[b]),kept m (p.run++[b]),p.far⟩
 else(Sp.mk m p.tag p.attr (qz5 (p.inside++[b])) p.run p.far).step m b
def Sp.next (p:Sp) (b:UInt8):Sp:=if 19≤p.mode.toNat then p.element p.mode.toNat b else p.step p.mode.toNat b
theorem ql0 (n:List UInt8):qnl (qci n):=by
 unfold qci qnl
 split
 ·rename_i h
  exact .inr h
 ·exact .inl rfl
theorem qyo {n:List UInt8} (h:qnl n):n.length≤8:=by
 rcases h with rfl | rfl | rfl | rfl | rfl<;>decide
theorem qpn (n:List UInt8) (b:UInt8) (h:n.length≤9):(qdg n b).length≤9:=by
 unfold qdg
 split
 ·exact h
 ·rw[List.length_append]; simp; omega
theorem qnt (n:List UInt8):0≤qex n∧qex n≤3:=by
 unfold qex
 cases h:qdf.find? (qcs n) with
 | none=>exact⟨by decide,by decide⟩
 | some r=>
   have hm:=List.mem_of_find?_eq_some h
   have:∀ r∈qdf,0≤r.2.2∧r.2.2≤3:=by decide
   exact this r hm
theorem q64:∀ m,m<19→qat.getD m false=false:=by decide
theorem q4f:∀ m,m≤33→qat.getD m false=true→qbi.getD m 0=0:=by decide
theorem qx8:∀ m,m≤33→qbi.getD (qbi.getD m 0) 0=0∧qbi.getD m 0≤33:=by decide
theorem qx9 (s:St) (b:UInt8):s.readEnd b≤s.ending.length:=by
 unfold St.readEnd
 split
 ·rename_i h
  have:=(List.getElem?_eq_some_iff.1 h).1
  omega
 ·split
  ·simp[St.ending]
  ·exact Nat.zero_le _
theorem qzs {n:List UInt8} (h:qnl n):(qac n).Ok:=by
 rcases h with rfl | rfl | rfl | rfl | rfl
 all_goals
  refine⟨by decide,by decide,by decide,fun _ _=>by decide,?_,by decide,by decide,by decide,by decide,by decide,by decide⟩
  unfold qnl; decide
theorem q21:St.start.Ok:=by
 refine⟨by decide,by decide,by decide,fun _ _=>rfl,.inl rfl,fun _=>⟨rfl,rfl⟩,fun _=>rfl,fun _=>rfl,by decide,by decide,fun h=>by revert h; decide⟩
theorem q4g (b:UInt8):(St.mk (qev b) [] [] 0 0 false).Ok:=by
 unfold qev
 split
 all_goals
  refine⟨by decide,by decide,by decide,fun _ _=>rfl,.inl rfl,fun _=>⟨rfl,rfl⟩,fun _=>rfl,fun _=>rfl,by decide,by decide,fun h=>by revert h; decide⟩
theorem q20 {s:St} (b:UInt8) (h:s.Ok) (hesc:s.esc=false):(s.table b).Ok:=by
 rw[qws]
 have hs:=q0g s.mode h.lo h.hi b
 have hn:=h.named
 unfold qsc at hs
 simp only[Bool.and_eq_true,decide_eq_true_eq,Bool.or_eq_true]at hs
 generalize qd8 s.mode b=r at hs ⊢
 generalize qjv s.mode b=t at hs ⊢
 obtain⟨⟨⟨⟨⟨⟨⟨⟨⟨⟨r1,r2⟩,t1⟩,t2⟩,hf⟩,hr⟩,h34⟩,h3⟩,h5⟩,h4⟩,hp⟩:=hs
 obtain⟨m,n,e,k,rd,x⟩:=s
 simp only at *
 subst hesc
 have g1:=h.name
 have g2:=h.elem
 have g3:=h.bare
 have g4:=h.low
 have g6:=h.read
 have g7:=h.wrap
 have g8:=h.high
 simp only at g1 g2 g3 g4 g6 g7 g8
 have hZ:∃ zn ze zk,(St.mk r n e k rd false).led t b=(St.mk r zn ze zk rd false).led1 t b∧zn.length≤9∧(t≠3→t≠5→zn=[])∧qnl ze∧-3≤zk∧zk≤3∧(r≠3∨t=r→ze=e)∧(r≠5∨t=r→zk=k):=by
  by_cases ht:t=r
  ·refine⟨n,e,k,?_,g1,?_,g2,g7.1,g7.2,fun _=>rfl,fun _=>rfl⟩
   ·unfold St.led; rw[if_pos ht]
   ·intro a b
    refine hn ?_ ?_<;>omega
  ·refine⟨[],if r=3 then qci n else e,if r=5 then qex n else k,?_,by simp,fun _ _=>rfl,?_,?_,?_,?_,?_⟩
   ·unfold St.led; rw[if_neg ht]; rfl
   ·split
    ·exact ql0 n
    ·exact g2
   ·split
    ·have:=qnt n; omega
    ·exact g7.1
   ·split
    ·have:=qnt n; omega
    ·exact g7.2
   ·intro hh
    rw[if_neg (by omega)]
   ·intro hh
    rw[if_neg (by omega)]
 obtain⟨zn,ze,zk,hled,z1,z2,z3,z4,z5,z6,z7⟩:=hZ
 rw[hled]
 unfold St.led1
 have hread:m<19→rd=0:=g4
 by_cases c3:t=3
 ·rw[if_pos c3]
  simp only[c3,if_true,Bool.or_eq_true,decide_eq_true_eq]at h3
  have hb:=g3 (by omega)
  refine⟨by simp only; omega,by simp only; omega,qpn zn b z1,fun hh=>absurd c3 hh,z3,fun _=>?_,fun _=>g4 (by omega),fun _=>rfl,by have:=g4 (by omega); simp only; omega,⟨z4,z5⟩,fun hh=>by simp only at hh; omega⟩
  refine⟨(z6 ?_).trans hb.1,(z7 (by omega)).trans hb.2⟩
  omega
 rw[if_neg c3]
 by_cases c5:t=5
 ·rw[if_pos c5]
  simp only[c5,if_true,Bool.or_eq_true,decide_eq_true_eq]at h5
  refine⟨by simp only; omega,by simp only; omega,qpn zn b z1,fun _ hh=>absurd c5 hh,z3,fun hh=>by simp only at hh; omega,fun _=>g4 (by omega),fun _=>rfl,by have:=g4 (by omega); simp only; omega,⟨by simp only; omega,by simp only; omega⟩,fun hh=>by simp only at hh; omega⟩
 rw[if_neg c5]
 have hzn:=z2 c3 c5
 by_cases c4:t=4∨t=10
 ·rw[if_pos c4]
  rw[if_pos (by omega)]at h4
  simp only[Bool.and_eq_true,decide_eq_true_eq]at h4
  refine⟨by simp only; omega,by simp only; omega,z1,fun _ _=>hzn,z3,fun hh=>by simp only at hh; omega,fun _=>g4 (by omega),fun _=>rfl,by have:=g4 (by omega); simp only; omega,⟨by simp only; omega,by simp only; omega⟩,fun hh=>by simp only at hh; omega⟩
 rw[if_neg c4]
 by_cases c34:t=34
 ·rw[if_pos c34]
  exact qzs z3
 rw[if_neg c34]
 have hmt:(m<19↔t<19)∧(m<19↔r<19):=by
  by_cases hm:m<19
  ·rw[if_pos hm]at hf
   simp only[Bool.and_eq_true,Bool.or_eq_true,decide_eq_true_eq]at hf
   omega
  ·rw[if_neg hm]at hf
   simp only[Bool.and_eq_true,decide_eq_true_eq]at hf
   omega
 refine⟨by simp only; omega,by simp only; omega,z1,fun _ _=>hzn,z3,fun hh=>?_,fun hh=>g4 (by simp only at hh; omega),fun _=>rfl,?_,⟨z4,z5⟩,fun hh=>?_⟩
 ·simp only at hh
  rw[if_pos (by omega)]at hp
  simp only[Bool.and_eq_true,Bool.or_eq_true,decide_eq_true_eq]at hp
  have hb:=g3 (by omega)
  exact⟨(z6 (by omega)).trans hb.1,(z7 (by omega)).trans hb.2⟩
 ·by_cases hm:m<19
  ·have:=g4 hm; simp only; omega
  ·have:=z6 (by omega)
   subst this
   exact g6
 ·simp only at hh
  have hb:=g8 (by omega)
  exact⟨by rw[show ze=e from z6 (by omega)]; exact hb.1,(z7 (by omega)).trans hb.2⟩
theorem q2j {s:St} (b:UInt8) (h:s.Ok):(s.behind b).Ok:=by
 have quiet:∀ s:St,s.Ok→(s.quiet b).Ok:=by
  intro s h
  unfold St.quiet
  split
  ·rename_i hq
   simp only[Bool.and_eq_true]at hq
   exact⟨h.lo,h.hi,h.name,h.named,h.elem,h.bare,h.low,fun hh=>(by simp only at hh; rw[hq.1]at hh; cases hh),h.read,h.wrap,h.high⟩
  ·rename_i hq
   refine q20 b h ?_
   by_cases he:qat.getD s.mode false=true
   ·rw[he,Bool.true_and]at hq
    simp only[Bool.or_eq_true,not_or,Bool.not_eq_true]at hq
    exact hq.1
   ·exact h.calm (Bool.eq_false_iff.2 he)
 unfold St.behind
 split
 ·split
  ·exact q4g b
  ·refine quiet _ ⟨h.lo,h.hi,h.name,h.named,h.elem,h.bare,fun hh=>?_,h.calm,qx9 s b,h.wrap,h.high⟩
   simp only at hh
   omega
 ·exact quiet _ h
def St.nowRead (s:St) (b:UInt8):Nat:=if 19≤s.mode then s.readEnd b else s.read
theorem q8i (x:Sx) (b:UInt8) (hm:19≤x.st.mode) (he:x.st.ends b=true):x.behind b=⟨⟨qev b,[],[],0,0,false⟩,Mk.none⟩:=by
 have h1:x.st.behind b=⟨qev b,[],[],0,0,false⟩:=by unfold St.behind; rw[if_pos hm,if_pos he]
 have h2:qee x.st x.ma b=Mk.none:=by unfold qee; rw[if_pos ⟨hm,he⟩]
 show Sx.mk (x.st.behind b) (qee x.st x.ma b)=_
 rw[h1,h2]
theorem qxg (x:Sx) (b:UInt8) (he:¬(19≤x.st.mode∧x.st.ends b=true)):x.behind b=⟨(St.mk x.st.mode x.st.name x.st.elem x.st.kind (x.st.nowRead b) x.st.esc).quiet b,qjq x.st x.ma b⟩:=by
 have h1:x.st.behind b=(St.mk x.st.mode x.st.name x.st.elem x.st.kind (x.st.nowRead b) x.st.esc).quiet b:=by
  unfold St.behind St.nowRead
  by_cases hm:19≤x.st.mode
  ·rw[if_pos hm,if_pos hm,if_neg (fun q=>he ⟨hm,q⟩)]
  ·rw[if_neg hm,if_neg hm]
 have h2:qee x.st x.ma b=qjq x.st x.ma b:=by unfold qee; rw[if_neg he]
 show Sx.mk (x.st.behind b) (qee x.st x.ma b)=_
 rw[h1,h2]
theorem q5f (x:Sx) (b:UInt8) (he:¬(19≤x.st.mode∧x.st.ends b=true)) (hq:(qat.getD x.st.mode false && (x.st.esc || b==92))=true) :
  x.behind b=⟨⟨x.st.mode,x.st.name,x.st.elem,x.st.kind,x.st.nowRead b,!x.st.esc⟩,qby x.st.mode x.st.esc b⟩:=by
 rw[qxg x b he]
 unfold St.quiet qjq
 simp only
 rw[hq,if_pos rfl,if_pos rfl]
theorem qjj (x:Sx) (b:UInt8) (r t:Nat) (he:¬(19≤x.st.mode∧x.st.ends b=true)) (hq:(qat.getD x.st.mode false && (x.st.esc || b==92))=false) (hr:qd8 x.st.mode b=r) (ht:qjv x.st.mode b=t) :
  x.behind b=Sx.led ⟨⟨r,x.st.name,x.st.elem,x.st.kind,x.st.nowRead b,x.st.esc⟩,x.ma⟩ t b:=by
 rw[qxg x b he]
 unfold St.quiet qjq
 simp only
 rw[hq,if_neg (by simp),if_neg (by simp),qws]
 simp only
 rw[hr,ht]
 rfl
theorem at_a (m:Nat) (b:UInt8) (hT:¬ qa1 m b=0):qd8 m b=m∧qjv m b=or3 (qa1 m b) (qar.getD m 0) m:=by
 have h:qd8 m b=m:=by unfold qd8; rw[if_neg (fun q=>hT q.1)]
 unfold qjv
 rw[h]
 exact⟨rfl,rfl⟩
theorem at_b (m:Nat) (b:UInt8) (hT:qa1 m b=0) (hR:qbi.getD m 0=0):qd8 m b=m∧qjv m b=or3 0 (qar.getD m 0) m:=by
 have h:qd8 m b=m:=by unfold qd8; rw[if_neg (fun q=>q.2 hR)]
 unfold qjv
 rw[h,hT]
 exact⟨rfl,rfl⟩
theorem at_c (m R:Nat) (b:UInt8) (hT:qa1 m b=0) (hR:qbi.getD m 0=R) (h0:R≠0):qd8 m b=R∧qjv m b=or3 (qa1 R b) (qar.getD R 0) R:=by
 have h:qd8 m b=R:=by unfold qd8 qp6; rw[if_pos ⟨hT,by rw[hR]; exact h0⟩,hR]
 unfold qjv
 rw[h]
 exact⟨rfl,rfl⟩
structure MkOk (k:Mk):Prop where
 hex:0≤k.hex∧k.hex≤5
 pct:0≤k.pct∧k.pct≤2
theorem qii:MkOk Mk.none:=⟨by decide,by decide⟩
theorem qxa (n:Int) (b:UInt8) (m:Int) (h:n≤m) (hm:0≤m):0≤qei n b∧qei n b≤m:=by
 unfold qei
 split
 ·next q=>omega
 ·omega
theorem qu5 (kind:Int) (m:Nat) (k:Mk) (b:UInt8) (h:MkOk k):MkOk (qam kind m k b):=by
 have h1:=h.hex
 have h2:=h.pct
 have f1:=qxa k.hex b 5 h1.2 (by omega)
 have f2:=qxa k.pct b 2 h2.2 (by omega)
 refine⟨f1,?_⟩
 show 0≤(if _ then _ else _:Int)∧(if _ then _ else _:Int)≤2
 split
 ·split
  ·omega
  ·exact f2
 ·omega
theorem qtn (m:Nat) (e:Bool) (b:UInt8):MkOk (qby m e b):=by
 unfold qby
 split
 ·exact qii
 ·split
  ·next r hr=>
   have hm:=List.mem_of_find?_eq_some hr
   have:∀ r∈qe1,0≤r.2.2.2∧r.2.2.2≤5:=by decide
   exact⟨this r hm,by show (0:Int)≤0∧(0:Int)≤2; omega⟩
  ·exact qii
theorem q3y (s:St) (k:Mk) (t:Nat) (b:UInt8) (h:MkOk k):MkOk (qcq s k t b):=by
 unfold qcq
 split
 ·exact qu5 _ _ _ _ h
 ·exact qii
theorem qwg (s:St) (k:Mk) (b:UInt8) (h:MkOk k):MkOk (qee s k b):=by
 unfold qee
 split
 ·exact qii
 ·unfold qjq
  split
  ·exact qtn _ _ _
  ·exact q3y _ _ _ _ h
structure SxOk (x:Sx):Prop where
 st:x.st.Ok
 ma:MkOk x.ma
theorem qf0:SxOk Sx.start:=⟨q21,qii⟩
theorem qmx {x:Sx} (b:UInt8) (h:SxOk x):SxOk (x.behind b):=⟨q2j b h.st,qwg _ _ b h.ma⟩
theorem qr7 (l:List UInt8):∀ x:Sx,SxOk x→SxOk (qau x l):=by
 induction l with
 | nil=>intro x h; exact h
 | cons b l ih=>intro x h; exact ih _ (qmx b h)
def pct1 (b:UInt8):List UInt8→Int
 | []=>0
 | c::_=>if c=37∧qa0 b qnz=true then 1 else 0
def pctR:List UInt8→Int
 | []=>0
 | b::l=>if b=37 then 2 else pct1 b l
def q8u (run:List UInt8):Int:=pctR run.reverse
def q8e (f:Int):Int:=if f=0 then 2 else if f=1 then 3 else if f=2 then 4 else 1
structure Vw where
 mode:Int
 elem:Int
 attr:Int
 ends:Int
 esc:Int
 pct:Int
 link:Int
 name:List UInt8
 ref:Bool
def qvr (n:List UInt8):Int:=if n=qek∨[111,110] <+: n then 3 else if n=[104,114,101,102]∨n=[115,114,99]∨n=[97,99,116,105,111,110] then 2 else 1
def q5p (m:Int):Bool:=m==1 || (m==19 || (m==8 || m==9))
def Sp.view (p:Sp):Vw where
 mode:=p.mode
 elem:=if(3<p.mode∧p.mode≤10)∨19≤p.mode then q5d p.tag else 0
 attr:=if 6≤p.mode∧p.mode≤9 then qvr p.attr else 0
 ends:=if 19≤p.mode then p.read else 0
 esc:=if q31 p.mode=true then q66 (qu7 p.mode) p.run else 0
 pct:=if(p.mode=8∨p.mode=9)∧qvr p.attr=2 then q8u p.run else 0
 link:=if(p.mode=8∨p.mode=9)∧qvr p.attr=2 then p.far else 0
 name:=if p.mode=3 then p.tag else if p.mode=5 then p.attr else[]
 ref:=if q5p p.mode=true then q7s p.run else false
def Sx.view (x:Sx):Vw where
 mode:=x.st.mode
 elem:=q5d x.st.elem
 attr:=if 6≤x.st.mode∧x.st.mode≤9 then x.st.kind+1 else 0
 ends:=x.st.read
 esc:=if x.st.esc=true then 1 else if x.ma.hex=0 then 0 else x.ma.hex+1
 pct:=x.ma.pct
 link:=if qcr x.st.kind x.st.mode=true then q8e x.ma.far else 0
 name:=x.st.name
 ref:=x.ma.ref
def Sx.halfway (x:Sx):Bool:=x.ma.ref || (x.st.esc || (decide (0<x.ma.hex) || (decide (0<x.ma.pct) || decide (0<x.st.read))))
def Sx.hole (x:Sx):Int×Int:=
 if qaq x.st.mode=0 then(0,10) else if x.st.kind=2 then(0,11) else if x.halfway=true then(0,12)
 else if qcr x.st.kind x.st.mode=true∧x.ma.far=0 then(2,0) else if qcr x.st.kind x.st.mode=true then(3,0) else(qaq x.st.mode,0)
def Sx.behindHole (x:Sx):Sx:=if qcr x.st.kind x.st.mode=true∧x.ma.far<2 then⟨x.st,⟨x.ma.ref,x.ma.hex,x.ma.pct,2⟩⟩ else x
def Vw.as (v:Vw):Int:=
 if v.mode=1∨v.mode=19 then 1 else if v.mode=8∨v.mode=9 then(if v.link=2 then 2 else if v.attr=2 then 3 else 1) else if v.mode=21∨v.mode=22 then 4 else if v.mode=29∨v.mode=30 then 5 else 0
def Vw.hole (v:Vw):Int×Int:=if v.as=0 then(0,10) else if v.attr=3 then(0,11) else if(v.ref || (decide (0<v.esc) || (decide (0<v.pct) || decide (0<v.ends))))=true then(0,12) else(v.as,0)
def Sp.behindHole (p:Sp):Sp:=if p.view.link=2∨p.view.link=3 then⟨p.mode,p.tag,p.attr,p.inside,p.run,4⟩ else p
theorem qh4 (x:Sx) (h:SxOk x):SxOk x.behindHole:=by
 unfold Sx.behindHole
 split
 ·exact⟨h.st,⟨h.ma.hex,h.ma.pct⟩⟩
 ·exact h
deriving instance DecidableEq for St,Mk,Sx
structure Src where
 name:List UInt8
 parts:List Pt
abbrev En:=Nat×Sx
structure Ft where
 code:Nat
 kind:Int
 place:List UInt8
 pos:Nat
def Ft.none:Ft:=⟨0,0,[],0⟩
structure Sr where
 ends:List (En×Sx)
 nums:List (En×Nat)
 vis:List (Nat×List Int)
 fault:Ft
def Sx.none:Sx:=⟨⟨0,[],[],0,0,false⟩,Mk.none⟩
def Sx.isNone (x:Sx):Bool:=x.st.mode==0
def qa7 {α:Type}:List (En×α)→En→Option α
 | [],_=>Option.none
 | (k,v)::l,e=>if k=e then some v else qa7 l e
def qbg {α:Type}:List (En×α)→En→α→List (En×α)
 | [],e,v=>[(e,v)]
 | (k,u)::l,e,v=>if k=e then(e,v)::l else(k,u)::qbg l e v
def qg1 (n:List UInt8):Nat→List Src→Nat
 | _,[]=>0
 | i,s::l=>if s.name=n then i else qg1 n (i+1) l
def qag (S:List Src) (n:List UInt8):Nat:=qg1 n 1 (S.drop 1)
def qaj (S:List Src) (i:Nat):List Pt:=match S[i]? with
 | some s=>s.parts
 | Option.none=>[]
def qlm (S:List Src) (i:Nat):List UInt8:=match S[i]? with
 | some s=>s.name
 | Option.none=>[]
def qdd (beh:Sr→List UInt8→Sx→Sr×Sx) (P:List Pt):Nat→Nat→Sr→Sx→Sr×Sx
 | 0,_,s,x=>(s,x)
 | n+1,a,s,x=>
   if x.isNone=true then(s,x) else
   match P[a]? with
   | Option.none=>(s,x)
   | some p=>
     if p.kind=1 then qdd beh P n (a+1) s (qau x p.text)
     else if p.kind=2 then qdd beh P n (a+1) s x.behindHole
     else if p.kind=3∨p.kind=4 then qdd beh P n (p.mate+1) s x
     else if p.kind=6 then qdd beh P n (a+1) (beh s p.text x).1 (beh s p.text x).2
     else qdd beh P n (a+1) s x
def qpq:Ft:=⟨3,0,[],0⟩
def behV (S:List Src):Nat→Sr→List UInt8→Sx→Sr×Sx
 | 0,s,_,x=>(s,x)
 | k+1,s,n,x=>
   if qag S n=0 then(s,x) else
   match qa7 s.ends (qag S n,x) with
   | some e=>(s,e)
   | Option.none=>
     if s.ends.length=256 then({ s with fault:=qpq },Sx.none) else
     let P:=qaj S (qag S n)
     let r:=qdd (behV S k) P (P.length+1) 0 { s with ends:=qbg s.ends (qag S n,x) Sx.none } x
     ({ r.1 with ends:=qbg r.1.ends (qag S n,x) r.2 },r.2)
def qa2:Sx→List UInt8→Option Nat
 | _,[]=>Option.none
 | x,b::l=>if qbv x.st.kind x.st.mode x.ma.far b=true then some 0 else(qa2 (x.behind b) l).map (·+ 1)
def Sr.wrong (s:Sr) (S:List Src) (i:Nat) (kind:Int) (pos:Nat):Sr:={ s with fault:=⟨3,kind,qlm S i,pos⟩ }
def Sr.mark (s:Sr) (v a:Nat) (m:Int):Sr:={ s with vis:=s.vis.modify v fun x=>(x.1,x.2.set a m) }
def qgc (s:Sr) (e:En):Nat:=(qa7 s.nums e).getD 0
def goV (nm:Sr→List UInt8→Sx→Sr×Nat×Sx) (S:List Src) (i v:Nat) (P:List Pt):Nat→Nat→Sr→Sx→List (Sx×Nat)→Sr
 | 0,_,s,_,_=>s
 | n+1,a,s,x,B=>
   match P[a]? with
   | Option.none=>s
   | some p=>
     if p.kind=1 then
      (match qa2 x p.text with
       | some j=>s.wrong S i 14 (p.pos+j)
       | Option.none=>goV nm S i v P n (a+1) s (qau x p.text) B)
     else if p.kind=2 then
      (if x.hole.2≠0 then s.wrong S i x.hole.2 p.pos else goV nm S i v P n (a+1) (s.mark v a x.hole.1) x.behindHole B)
     else if p.kind=3∨p.kind=4 then goV nm S i v P n (a+1) s x (B++[(x,p.mate)])
     else if p.kind=5 then
      (match B.getLast? with
       | Option.none=>s
       | some b=>if x≠b.1 then s.wrong S i 13 (qox P p.mate) else goV nm S i v P n (a+1) s x B.dropLast)
     else if p.kind=6 then
      let r:=nm s p.text x
      let s1:=r.1.mark v a r.2.1
      if s1.fault.code≠0∨(r.2.2.isNone=true∧B=[]) then s1
      else if r.2.2.isNone=false then goV nm S i v P n (a+1) s1 r.2.2 B
      else(match B.getLast? with
       | Option.none=>s1
       | some b=>goV nm S i v P n b.2 s1 b.1 B)
     else goV nm S i v P n (a+1) s x B
def qdk (S:List Src):Nat→Sr→En→Sr
 | 0,s,_=>s
 | k+1,s,e=>
   let P:=qaj S e.1
   let nm:=fun(s:Sr) (n:List UInt8) (x:Sx)=>
    let r:=behV S 257 s n x
    if qag S n=0∨r.1.fault.code≠0 then(r.1,0,r.2)
    else if qgc r.1 (qag S n,x)=0 then
     (qdk S k r.1 (qag S n,x),qgc (qdk S k r.1 (qag S n,x)) (qag S n,x),r.2)
    else(r.1,qgc r.1 (qag S n,x),r.2)
   goV nm S e.1 s.vis.length P (P.length+1) 0 { s with nums:=qbg s.nums e s.vis.length,vis:=s.vis++[(e.1,List.replicate P.length 0)] } e.2 []
def qdq (S:List Src) (len:Nat):List (Nat×List Int)×Ft:=
 let s:=qdk S 258 ⟨[],[],[],Ft.none⟩ (0,Sx.start)
 if s.fault.code≠0 then([],s.fault) else
 let P:=qaj S 0
 let r:=qdd (behV S 257) P (P.length+1) 0 s Sx.start
 if r.2.isNone=false∧r.2≠Sx.start then([],⟨3,15,qlm S 0,len⟩)
 else if r.1.fault.code≠0 then([],r.1.fault) else(r.1.vis,Ft.none)
def qgm:List (List UInt8)→Bool
 | []=>true
 | n::l=>qce n && (!l.contains n && qgm l)
def qa8:List (List UInt8×List UInt8)→Ft×List Src
 | []=>(Ft.none,[])
 | (n,t)::l=>if(qav t).1.1≠0 then(⟨2,(qav t).1.1,n,(qav t).1.2⟩,[])
   else if(qa8 l).1.code≠0 then((qa8 l).1,[]) else(Ft.none,⟨n,(qav t).2⟩::(qa8 l).2)
def qbe (t:List UInt8) (L:List (List UInt8×List UInt8)):(List (Nat×List Int)×List Src)×Ft:=
 if 6<L.length∨qgm (L.map (·.1))=false then(([],[]),⟨1,0,[],0⟩) else
 if(qa8 (([],t)::L)).1.code≠0 then(([],[]),(qa8 (([],t)::L)).1) else
 if(qdq (qa8 (([],t)::L)).2 t.length).2.code≠0 then(([],[]),(qdq (qa8 (([],t)::L)).2 t.length).2)
 else(((qdq (qa8 (([],t)::L)).2 t.length).1,(qa8 (([],t)::L)).2),Ft.none)
end Go.Proofs.YtfkhljmiehdgmaaGreatDoor.Pl
