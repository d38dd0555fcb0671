/-
  Steps of the proof.
-/
import Derived.DeepKeys3
import Derived.Test.YtfkhljmiehdgmaaGreatDoorCuAE
import Derived.Test.YtfkhljmiehdgmaaGreatDoorCuAF
import Derived.Lib.SplitLaws
import Derived.Deep.LoopGhost
import Derived.Test.YtfkhljmiehdgmaaGreatDoorCuAD
import Derived.Outline
import Derived.Deep.DeepCutAuto
import Derived.Deep.CutBlock
import Derived.Test.YtfkhljmiehdgmaaGreatDoorCuAC
import Derived.Lib.OthersKept
import Derived.WalkSmall
import Derived.Lib.AppendIntMem
import Derived.BigCall
set_option maxRecDepth 100000
set_option maxHeartbeats 40000000
namespace Go.Proofs.YtfkhljmiehdgmaaGreatDoor
open Go.RowKit Go.Proofs.Tryz Pl
section
open Go.Maps
def qge(e:En):Value:=.agg (#[.int .i64 e.1]++(qaf e.2))
theorem qem:Keyed prog 180:=Keyed.of_law (deep_law (m:=4) (by decide) (by kernel_rfl) (by kernel_rfl) (by kernel_rfl))
theorem qno:Keyed prog 9:=string_keyed underlying9
theorem qxo(d:Nat)(n:Int)(h:(Lit.int .i64 n).wf=true):prog.keyLits (d+1) 3 [.int .i64 n]=some [.int .i64 n]:=by
 unfold Program.keyLits;simp[underlying3,h]
theorem zfu(d:Nat)(n:Int)(h:(Lit.int .u8 n).wf=true):prog.keyLits (d+1) 158 [.int .u8 n]=some [.int .u8 n]:=by
 unfold Program.keyLits;simp[underlying158,h]
theorem q87(d:Nat)(b:Bool):prog.keyLits (d+1) 4 [.bool b]=some [.bool b]:=by
 unfold Program.keyLits;simp[underlying4]
theorem zd9(d:Nat)(s:zT)(h:s.size<=maxLen):prog.keyLits (d+1) 9 [.string s]=some [.string s.data.toList]:=by
 unfold Program.keyLits;simp[underlying9,h]
theorem qj9:prog.cellsOf 3=1:=by kernel_rfl
theorem q6m:prog.cellsOf 158=1:=by kernel_rfl
theorem qtt:prog.cellsOf 4=1:=by kernel_rfl
theorem qy4:prog.cellsOf 9=1:=by kernel_rfl
theorem qrl:prog.cellsOf 160=5:=by kernel_rfl
theorem ql2:prog.cellsOf 162=10:=by kernel_rfl
theorem qrm:prog.cellsOf 180=11:=by kernel_rfl
theorem zfl(d:Nat)(r e:Bool)(a b c:Int)(ha:(Lit.int .i64 a).wf=true)(hb:(Lit.int .i64 b).wf=true)(hc:(Lit.int .i64 c).wf=true):∃l,prog.keyLits (d+2) 160 [.bool r,.bool e,.int .i64 a,.int .i64 b,.int .i64 c]=some l:=by
 unfold Program.keyLits;simp only[underlying160];simp[qrl,qj9,qtt,qxo,q87,ha,hb,hc]
theorem q7u(d:Nat)(m:Int)(n e:zT)(k rd:Int)(r es:Bool)(a b c:Int)(hm:(Lit.int .u8 m).wf=true)(hn:n.size<=maxLen)(he:e.size<=maxLen)(hk:(Lit.int .i64 k).wf=true)(hr:(Lit.int .i64 rd).wf=true)(ha:(Lit.int .i64 a).wf=true)(hb:(Lit.int .i64 b).wf=true)(hc:(Lit.int .i64 c).wf=true) :
  ∃l,prog.keyLits (d+3) 162 [.int .u8 m,.string n,.string e,.int .i64 k,.int .i64 rd,.bool r,.bool es,.int .i64 a,.int .i64 b,.int .i64 c]=some l:=by
 obtain⟨l,hl⟩:=zfl d r es a b c ha hb hc;unfold Program.keyLits;simp only[underlying162];simp[ql2,qrl,qj9,q6m,qy4,qxo,zfu,zd9,hm,hn,he,hk,hr,hl]
theorem qz7{x:Sx}(h:SxOk x):(Lit.int .u8 x.st.mode).wf=true/\x.st.name.length<=9/\x.st.elem.length<=8/\(Lit.int .i64 x.st.kind).wf=true/\(Lit.int .i64 (x.st.read:Int)).wf=true/\(Lit.int .i64 x.ma.hex).wf=true/\(Lit.int .i64 x.ma.pct).wf=true:=by
 have h1:=h.st.hi;have h2:=h.st.name;have h3:=h.st.wrap;have h4:=h.st.read;have h5:=h.ma.hex;have h6:=h.ma.pct;have he:x.st.elem.length<=8:=by
  rcases h.st.elem with e|e|e|e|e<;>rw[e]<;>decide
 have hr:x.st.read<=10:=by
  have:x.st.ending.length=x.st.elem.length+2:=rfl;omega
 exact⟨WalkArith.wf_u8 (by omega),h2,he,WalkArith.wf_i64 (by omega),WalkArith.wf_i64 (by omega),WalkArith.wf_i64 (by omega),WalkArith.wf_i64 (by omega)⟩
theorem qtj{e:En}(h:SxOk e.2)(hf:0<=e.2.ma.far/\e.2.ma.far<=3)(hi:e.1<=6):∃l,keyOf prog 180 (qge e)=some l:=by
 obtain⟨h1,h2,h3,h4,h5,h6,h7⟩:=qz7 h;obtain⟨d,hs⟩:∃d,prog.types.size+1=(d+3)+1:=⟨prog.types.size - 3,by
  have:4<=prog.types.size:=by decide +kernel
  omega⟩
 obtain⟨l,hl⟩:=q7u d e.2.st.mode ⟨e.2.st.name.toArray⟩ ⟨e.2.st.elem.toArray⟩ e.2.st.kind e.2.st.read e.2.ma.ref e.2.st.esc e.2.ma.hex e.2.ma.pct e.2.ma.far h1 (by simp[ByteArray.size];unfold maxLen;omega) (by simp[ByteArray.size];unfold maxLen;omega) h4 h5 h6 h7 (WalkArith.wf_i64 (by omega));have hk:prog.keyType 180=true:=by kernel_rfl
 have Ha:(qge e).formed prog 180=true:=by
  unfold qge Value.formed;simp[underlying180,qrm,qaf]
 unfold keyOf;simp only[underlying180];rw[hk,Ha,hs];unfold Program.keyLits;simp only[underlying180];have ha:(Lit.int .i64 (e.1:Int)).wf=true:=WalkArith.wf_i64 (by omega);unfold qge qaf bs;simp[Value.cells,qrm,ql2,qj9,qxo,ha,hl]
end
theorem qb7(b:UInt8)(all:zT)(l:zU)(w:World)(ha:all.data.toList=l)(h:among b l=true) :
  zC 130 #[.string all,zJ b.toNat] w fun e w'=>∃x:Int,0<=x/\e=.returned (zI x)/\w=w':=by
 refine(strings_IndexByte all b.toNat w).mono ?_;rintro e w' ⟨rfl,rfl⟩;refine⟨_,?_,rfl,rfl⟩;rw[qhs,ha];rcases qer l b with⟨a,_⟩|⟨_,a⟩
 ·exact a
 ·rw[h]at a;cases a
theorem qci(b:UInt8)(all:zT)(l:zU)(w:World)(ha:all.data.toList=l)(h:among b l=false) :
  zC 130 #[.string all,zJ b.toNat] w (zQ (zI (-1)) w):=by
 refine(strings_IndexByte all b.toNat w).mono ?_;rintro e w' ⟨rfl,rfl⟩;refine⟨qal ?_,rfl⟩;rw[qhs,ha];rcases qer l b with⟨_,a⟩|⟨a,_⟩
 ·rw[h]at a;cases a
 ·exact a
theorem q2u(s p:zT)(l:zU)(w:World)(hp:p.data.toList=l) :
  zC 191 #[.string s,.string p] w (zQ (.bool (l.isPrefixOf s.data.toList)) w):=by
 refine(strings_HasPrefix s p w).mono ?_;rintro e w' ⟨rfl,rfl⟩;exact⟨qas (by rw[hp];rfl),rfl⟩
theorem q5u(n:zU)(w:World)(ht:PTabs w) :
  zC 186 #[zV n] w (zQ (zI (qc1 n)) w):=by
 obtain⟨c0,d0,e0⟩:=qm6 ht.at' 0 _ rfl;obtain⟨c1,d1,e1⟩:=qm6 ht.at' 1 _ rfl;obtain⟨c2,d2,e2⟩:=qm6 ht.at' 2 _ rfl;obtain⟨c3,d3,e3⟩:=qm6 ht.at' 3 _ rfl;obtain⟨c4,d4,e4⟩:=qm6 ht.at' 4 _ rfl;simp only[bs,qcz,Nat.mul_zero,Nat.reduceMul,Nat.reduceAdd]at c0 c1 c2 c3 c4 d0 d1 d2 d3 d4 e0 e1 e2 e3 e4;clear ht;go_enter func186,ntmps186
 go_wp2
 go_loop [3,4] (fun _ i=>∃k:Nat,k<=5/\i=zI k/\(qdu.take k).find? (qbc n)=none) (fun _ i=>5 - (intOf i).toNat)
 case atStart=>exact⟨0,by omega,rfl,rfl⟩
 case round=>
  obtain⟨k,hk,rfl,hn⟩:=hrel;have HN:Hid ((qdu.take k).find? (qbc n)=none):=hn;clear hn;rcases(show k=0\/k=1\/k=2\/k=3\/k=4\/k=5 by omega)with rfl|rfl|rfl|rfl|rfl|rfl
  ·by_cases hq:([104,114,101,102]==n)=true
   ·have HV:Hid (qc1 n=1):=qf2 n 0 _ rfl HN.out (by show (([104,114,101,102]==n) || _)=true;rw[hq];rfl)
    go_wp2
    go_ret
    exact⟨qal (by rw[HV.out]),rfl⟩
   ·have hq:=ye.2 hq
    have HV:Hid ((qdu.take (0+1)).find? (qbc n)=none):=qdb (qbc n) 0 _ rfl HN.out (by show(([104,114,101,102]==n) || _)=false;rw[hq];rfl);go_wp2
    go_round
    case rel=>exact⟨1,by omega,rfl,HV.out⟩
    case measure=>simp[intOf]
  ·by_cases hq:([115,114,99]==n)=true
   ·have HV:Hid (qc1 n=1):=qf2 n 1 _ rfl HN.out (by show (([115,114,99]==n) || _)=true;rw[hq];rfl)
    go_wp2
    go_ret
    exact⟨qal (by rw[HV.out]),rfl⟩
   ·have hq:=ye.2 hq
    have HV:Hid ((qdu.take (1+1)).find? (qbc n)=none):=qdb (qbc n) 1 _ rfl HN.out (by show(([115,114,99]==n) || _)=false;rw[hq];rfl);go_wp2
    go_round
    case rel=>exact⟨2,by omega,rfl,HV.out⟩
    case measure=>simp[intOf]
  ·by_cases hq:([97,99,116,105,111,110]==n)=true
   ·have HV:Hid (qc1 n=1):=qf2 n 2 _ rfl HN.out (by show (([97,99,116,105,111,110]==n) || _)=true;rw[hq];rfl)
    go_wp2
    go_ret
    exact⟨qal (by rw[HV.out]),rfl⟩
   ·have hq:=ye.2 hq
    have HV:Hid ((qdu.take (2+1)).find? (qbc n)=none):=qdb (qbc n) 2 _ rfl HN.out (by show(([97,99,116,105,111,110]==n) || _)=false;rw[hq];rfl);go_wp2
    go_round
    case rel=>exact⟨3,by omega,rfl,HV.out⟩
    case measure=>simp[intOf]
  ·by_cases hq:([115,116,121,108,101]==n)=true
   ·have HV:Hid (qc1 n=2):=qf2 n 3 _ rfl HN.out (by show (([115,116,121,108,101]==n) || _)=true;rw[hq];rfl)
    go_wp2
    go_ret
    exact⟨qal (by rw[HV.out]),rfl⟩
   ·have hq:=ye.2 hq
    have HV:Hid ((qdu.take (3+1)).find? (qbc n)=none):=qdb (qbc n) 3 _ rfl HN.out (by show(([115,116,121,108,101]==n) || _)=false;rw[hq];rfl);go_wp2
    go_round
    case rel=>exact⟨4,by omega,rfl,HV.out⟩
    case measure=>simp[intOf]
  ·by_cases hq:([111,110]==n)=true
   ·have HV:Hid (qc1 n=2):=qf2 n 4 _ rfl HN.out (by show (([111,110]==n) || _)=true;rw[hq];rfl)
    go_wp2
    go_ret
    exact⟨qal (by rw[HV.out]),rfl⟩
   ·have hq:=ye.2 hq
    by_cases hp:List.isPrefixOf [111,110] n=true
    ·have HV:Hid (qc1 n=2):=qf2 n 4 _ rfl HN.out (by show (([111,110]==n) || (true && List.isPrefixOf [111,110] n))=true;rw[hp];simp)
     go_wp2_with (go_at_call 191;refine(q2u ⟨n.toArray⟩ _ [111,110] _ rfl).mono ?_;rintro e w' ⟨rfl,rfl⟩)
     go_ret
     exact⟨qal (by rw[HV.out]),rfl⟩
    ·have hp:=ye.2 hp
     have HV:Hid ((qdu.take (4+1)).find? (qbc n)=none):=qdb (qbc n) 4 _ rfl HN.out (by show(([111,110]==n) || (true && List.isPrefixOf [111,110] n))=false;rw[hq,hp];rfl);go_wp2_with (go_at_call 191;refine(q2u ⟨n.toArray⟩ _ [111,110] _ rfl).mono ?_;rintro e w' ⟨rfl,rfl⟩)
     go_round
     case rel=>exact⟨5,by omega,rfl,HV.out⟩
     case measure=>simp[intOf]
  ·have HV:Hid (qc1 n=0):=q1c n HN.out
   go_wp2
   go_ret
   exact⟨qal (by rw[HV.out]),rfl⟩
variable{w:World}{g k:Nat}{s:Sx}{c:UInt8}
theorem qti(x:Sx)(w:World)(hs:x.st.elem.length<=1000) :
  zC 129 #[qar x] w (zR (zV x.st.ending) w):=by
 have hz:(ByteArray.mk x.st.elem.toArray).size=x.st.elem.length:=by simp[ByteArray.size]
 unfold qar qaf bs;go_enter func129,ntmps129
 go_wp2
 go_ret
 exact⟨qcl (by unfold St.ending;apply xj;simp),zB _⟩
structure SxAt(w:World)(g:Nat)(s:Sx):Prop where
 mode:w.cell? (zO g 0)=some (zJ (s.st.mode:Int))
 name:w.cell? (zO g 1)=some (zV s.st.name)
 elem:w.cell? (zO g 2)=some (zV s.st.elem)
 kind:w.cell? (zO g 3)=some (zI s.st.kind)
 read:w.cell? (zO g 4)=some (zI (s.st.read:Int))
 ref:w.cell? (zO g 5)=some (.bool s.ma.ref)
 esc:w.cell? (zO g 6)=some (.bool s.st.esc)
 hex:w.cell? (zO g 7)=some (zI s.ma.hex)
 pct:w.cell? (zO g 8)=some (zI s.ma.pct)
 far:w.cell? (zO g 9)=some (zI s.ma.far)
theorem zez{t:TypeId}{fz:Nat×Nat}(h:w.heap[g]?=some (.cells (qaf s) t fz)):SxAt w g s:=
 ⟨qaa h 0 _ rfl,qaa h 1 _ rfl,qaa h 2 _ rfl,qaa h 3 _ rfl,qaa h 4 _ rfl,qaa h 5 _ rfl,qaa h 6 _ rfl,qaa h 7 _ rfl,qaa h 8 _ rfl,qaa h 9 _ rfl⟩
theorem SxAt.all(h:SxAt w g s):w.cell? (zO g 0)=some (zJ (s.st.mode:Int))/\w.cell? (zO g 1)=some (zV s.st.name)/\w.cell? (zO g 2)=some (zV s.st.elem)/\w.cell? (zO g 3)=some (zI s.st.kind)/\w.cell? (zO g 4)=some (zI (s.st.read:Int))/\w.cell? (zO g 5)=some (.bool s.ma.ref)/\w.cell? (zO g 6)=some (.bool s.st.esc)/\w.cell? (zO g 7)=some (zI s.ma.hex)/\w.cell? (zO g 8)=some (zI s.ma.pct)/\w.cell? (zO g 9)=some (zI s.ma.far):=⟨h.mode,h.name,h.elem,h.kind,h.read,h.ref,h.esc,h.hex,h.pct,h.far⟩
theorem qkk(w:World)(s:Sx)(t:TypeId):SxAt (w.alloc (.cells (qaf s) t)) w.heap.size s:=zez (xG w _)
theorem SxAt.drew(h:SxAt w g s):SxAt w.drew g s:=⟨h.mode,h.name,h.elem,h.kind,h.read,h.ref,h.esc,h.hex,h.pct,h.far⟩
theorem SxAt.kept{w':World}{B:Nat}(h:SxAt w g s)(hb:Below B w w')(hB:g<B):SxAt w' g s:=
 ⟨(hb.cell (p:=zO g 0) hB).trans h.mode,(hb.cell (p:=zO g 1) hB).trans h.name,(hb.cell (p:=zO g 2) hB).trans h.elem,(hb.cell (p:=zO g 3) hB).trans h.kind,(hb.cell (p:=zO g 4) hB).trans h.read,(hb.cell (p:=zO g 5) hB).trans h.ref,(hb.cell (p:=zO g 6) hB).trans h.esc,(hb.cell (p:=zO g 7) hB).trans h.hex,(hb.cell (p:=zO g 8) hB).trans h.pct,(hb.cell (p:=zO g 9) hB).trans h.far⟩
theorem qth(s:St):s.ending.length=s.elem.length+2:=by simp[St.ending]
theorem q9k(E:zU)(k:Nat)(h:k<(ByteArray.mk E.toArray).size):E[k]?=some ((ByteArray.mk E.toArray)[k]'h):=by
 rw[yc (by simpa [ByteArray.size]using h)];rfl
theorem q9h{E:zU}{h:k<(ByteArray.mk E.toArray).size}(e:((c.toNat:Int)==((ByteArray.mk E.toArray)[k]'h).toNat)=true):E[k]?=some c:=by
 rw[beq8,yF]at e;rw[q9k E k h,e]
theorem q9i{E:zU}{h:k<(ByteArray.mk E.toArray).size}(e:((c.toNat:Int)==((ByteArray.mk E.toArray)[k]'h).toNat)=false):¬E[k]?=some c:=by
 rw[beq8,yf]at e;rw[q9k E k h];intro q;exact e (yk q).symm
theorem q3f{E:zU}(h:¬k<E.length):¬E[k]?=some c:=by
 rw[yd (by omega)];simp
theorem qx7{E:zU}{h:0<(ByteArray.mk E.toArray).size}(h0:E[0]?=some 60)(e:((c.toNat:Int)==((ByteArray.mk E.toArray)[0]'h).toNat)=true):c=60:=by
 have:=q9h e;rw[h0]at this;exact(yk this).symm
theorem q3g{E:zU}{h:0<(ByteArray.mk E.toArray).size}(h0:E[0]?=some 60)(e:((c.toNat:Int)==((ByteArray.mk E.toArray)[0]'h).toNat)=false):¬c=60:=by
 rintro rfl;exact q9i e h0
theorem q0r(x:Sx)(b:UInt8)(w:World)(hs:x.st.elem.length<=1000) :
  zC 93 #[qar x,zJ b.toNat] w (zR (zI (x.st.readEnd b:Nat)) w):=by
 have hz:(ByteArray.mk x.st.ending.toArray).size=x.st.ending.length:=by simp[ByteArray.size]
 have hl:=qth x.st;have he:=fun w=>qti x w hs;have HD:Hid (x.st.readEnd b=if x.st.ending[x.st.read]?=some (small b)then x.st.read+1 else if b=60 then 1 else 0):=rfl;have HZ:Hid (x.st.ending[0]?=some 60):=rfl;have Hb:x.st.ending.length<=1002:=by omega
 have h2:0<x.st.ending.length:=by omega
 generalize x.st.ending=E at hz hl he HD HZ Hb h2;clear hl;have He:(0:Int)<(E.length:Int):=by omega
 have hc:=qkk w x 162;unfold qaf bs at hc;unfold qar qaf bs;by_cases hb:x.st.read<E.length
 ·have Hc:(x.st.read:Int)<(E.length:Int):=by omega
  have hf:x.st.read+1<=2000:=by omega
  clear Hb;go_enter func93,ntmps93
  go_wp2_with fail
  refine(he _).mono ?_;rintro e w1 ⟨rfl,Ha⟩;have ha:=hc.kept Ha (by simp);have q4:=ha.read;have hw:zW w w1:=(zB _).trans (Ha.mono (by simp));go_wp2_with fail
  go_quiet ((go_at_call 131;refine qko (qja b _)))
  go_wp2
  ·go_ret
   exact⟨qal (by rw[HD.out,if_pos (q9h ‹_›)];rfl),qat hw _⟩
  ·have n1:=‹(((small b).toNat:Int)==(((ByteArray.mk E.toArray)[x.st.read]'(by rw[hz];exact hb)).toNat:Int))=false›
   have n2:=‹((b.toNat:Int)==(((ByteArray.mk E.toArray)[0]'(by rw[hz];exact h2)).toNat:Int))=true›;go_ret
   exact⟨qal (by rw[HD.out,if_neg (q9i n1),if_pos (qx7 HZ.out n2)];rfl),qat hw _⟩
  ·have n1:=‹(((small b).toNat:Int)==(((ByteArray.mk E.toArray)[x.st.read]'(by rw[hz];exact hb)).toNat:Int))=false›
   have n2:=‹((b.toNat:Int)==(((ByteArray.mk E.toArray)[0]'(by rw[hz];exact h2)).toNat:Int))=false›;go_ret
   exact⟨qal (by rw[HD.out,if_neg (q9i n1),if_neg (q3g HZ.out n2)];rfl),qat hw _⟩
 ·have Hc:decide ((x.st.read:Int)<(E.length:Int))=false:=by rw[yO];omega
  clear Hb;go_enter func93,ntmps93
  go_wp2_with fail
  refine(he _).mono ?_;rintro e w1 ⟨rfl,Ha⟩;have ha:=hc.kept Ha (by simp);have q4:=ha.read;have hw:zW w w1:=(zB _).trans (Ha.mono (by simp));go_wp2_with fail
  go_quiet (fail)
  go_wp2
  ·have n2:=‹((b.toNat:Int)==(((ByteArray.mk E.toArray)[0]'(by rw[hz];exact h2)).toNat:Int))=true›
   go_ret
   exact⟨qal (by rw[HD.out,if_neg (q3f hb),if_pos (qx7 HZ.out n2)];rfl),qat hw _⟩
  ·have n2:=‹((b.toNat:Int)==(((ByteArray.mk E.toArray)[0]'(by rw[hz];exact h2)).toNat:Int))=false›
   go_ret
   exact⟨qal (by rw[HD.out,if_neg (q3f hb),if_neg (q3g HZ.out n2)];rfl),qat hw _⟩
section
open Go.Maps
variable{B:Nat}{w w':World}{S:List Src}{vv:Value}{s:Sr}{l:List (En×Sx)}{e:En}
theorem qj5{a b:En}(h:qge a=qge b):a=b:=by
 obtain⟨i,⟨⟨m,n,e,k,r,es⟩,⟨rf,hx,pc,fr⟩⟩⟩:=a;obtain⟨i',⟨⟨m',n',e',k',r',es'⟩,⟨rf',hb,pc',fr'⟩⟩⟩:=b;unfold qge qaf bs at h;simp only[List.append_toArray,xC,xD,Value.agg.injEq,Array.mk.injEq,List.cons.injEq,Value.int.injEq,true_and,Value.string.injEq,Value.bool.injEq,and_true,ByteArray.mk.injEq]at h;obtain⟨h1,h2,h3,h4,h5,h6,h7,h8,h9,ha,Ha⟩:=h;have e1:i=i':=by omega
 have e2:m=m':=by omega
 have e6:r=r':=by omega
 subst e1 e2 e6 h3 h4 h5 h7 h8 h9 ha Ha;rfl
structure Fix where
 g:Nat
 bS:Nat
 bp:Nat
 be:Nat
 bn:Nat
 pv:Nat->Value
def qlm(F:Fix)(n:Nat)(vv:Value)(f:Ft):Array Value:=#[zF F.bS n n,.map (some F.bp),.map (some F.be),.map (some F.bn),vv,zI f.code,zI f.kind,bs f.place,zI f.pos]
structure SrcAt(w:World)(B:Nat)(F:Fix)(S:List Src):Prop where
 blk:∃cs fz,w.heap[F.bS]?=some (.cells cs 173 fz)
 name:∀i s,S[i]?=some s->w.cell? (zO F.bS (i*2))=some (bs s.name)
 slice:∀i s,S[i]?=some s->w.cell? (zO F.bS (i*2+1))=some (F.pv i)
 row:∀i s,S[i]?=some s->w.ownsRow B 229 4 (F.pv i) s.parts.length (qbp s.parts)
def qbw:Nat->List Src->List (Value×Value)
 |_,[]=>[]
 |i,s::l=>(bs s.name,zI i)::qbw (i+1) l
def qo2(l:List (En×Sx)):List (Value×Value):=l.map fun p=>(qge p.1,qar p.2)
structure SeAt(w:World)(B:Nat)(F:Fix)(S:List Src)(vv:Value)(s:Sr):Prop where
 blk:w.heap[F.g]?=zK (qlm F S.length vv s.fault) 178
 src:SrcAt w B F S
 places:qfj w F.bp (qbw 1 (S.drop 1))
 ends:qfj w F.be (qo2 s.ends)
 le:B<=F.g/\B<=F.be
 apart:F.g≠F.be/\F.bp≠F.be
structure Cue(B:Nat)(F:Fix)(w w':World):Prop where
 below:Below B w w'
 keep:∀k,k<w.heap.size->k≠F.g->k≠F.be->w'.heap[k]?=w.heap[k]?
theorem Cue.refl(B:Nat)(F:Fix)(w:World):Cue B F w w:=⟨xM _ _,fun _ _ _ _=>rfl⟩
theorem Cue.trans{F:Fix}{a b c:World}(h:Cue B F a b)(k:Cue B F b c):Cue B F a c:=
 ⟨h.below.trans k.below,fun i hi h1 h2=>(k.keep i (yi hi h.below.size) h1 h2).trans (h.keep i hi h1 h2)⟩
theorem Cue.of_below{F:Fix}(h:zW w w')(hB:B<=w.heap.size):Cue B F w w':=
 ⟨h.mono hB,fun k hk _ _=>h.block k hk⟩
theorem SrcAt.kept{F:Fix}(h:SrcAt w B F S)(hb:w'.heap[F.bS]?=w.heap[F.bS]?)(hr:∀i s k,S[i]?=some s->(F.pv i).ownBlock=some k->w'.heap[k]?=w.heap[k]?):SrcAt w' B F S:=by
 refine⟨?_,fun i s hs=>(xQ hb).trans (h.name i s hs),fun i s hs=>(xQ hb).trans (h.slice i s hs),fun i s hs=>qab (h.row i s hs) fun k hk=>hr i s k hs hk⟩;obtain⟨cs,fz,hc⟩:=h.blk;exact⟨cs,fz,hb.trans hc⟩
theorem qjc:(178:TypeId)≠173:=by decide
theorem qk6:(178:TypeId)≠229:=by decide
theorem qak{k b:Nat}{L:List (Value×Value)}{cs:Array Value}{t:TypeId}{fz:Nat×Nat}(h:w.heap[k]?=some (.cells cs t fz))(hm:qfj w b L):k≠b:=by
 rintro rfl;obtain⟨es,c,hb,_⟩:=hm;rw[h]at hb;cases hb
theorem SeAt.srcKept{F:Fix}(h:SeAt w B F S vv s)(hk:∀k,k<w.heap.size->k≠F.g->k≠F.be->w'.heap[k]?=w.heap[k]?):SrcAt w' B F S:=by
 obtain⟨cs,fz,hc⟩:=h.src.blk;refine h.src.kept (hk _ (ya.1 hc).1 (fun e=>qae h.blk hc qjc e.symm) (qak hc h.ends)) fun i s' k hs hv=>?_;obtain⟨cur,ha⟩:=qac (h.src.row i s' hs) k hv;exact hk k (ya.1 ha).1 (fun e=>qae h.blk ha qk6 e.symm) (qak ha h.ends)
theorem SeAt.below{F:Fix}(h:SeAt w B F S vv s)(hb:zW w w'):SeAt w' B F S vv s:=
 ⟨(hb.block _ (zL h.blk)).trans h.blk,h.srcKept fun k hk _ _=>hb.block k hk,h.places.heap (hb.block _ h.places.lt),h.ends.heap (hb.block _ h.ends.lt),h.le,h.apart⟩
theorem SeAt.alloc{F:Fix}(h:SeAt w B F S vv s)(o:Obj):SeAt (w.alloc o) B F S vv s:=h.below (zB o)
theorem SeAt.drewN{F:Fix}(h:SeAt w B F S vv s)(n:Nat):SeAt (w.drewN n) B F S vv s:=⟨h.blk,h.src.kept rfl fun _ _ _ _ _=>rfl,h.places,h.ends,h.le,h.apart⟩
theorem SeAt.other{F:Fix}(h:SeAt w B F S vv s){k:Nat}{cs:Array Value}{t:TypeId}{fz:Nat×Nat}(hk:w.heap[k]?=some (.cells cs t fz))(h1:t≠178)(h2:t≠173)(h3:t≠229)(j:Nat)(v:Value):SeAt (w.setCell (zO k j) v) B F S vv s:=by
 have ha:∀i,i≠k->(w.setCell (zO k j) v).heap[i]?=w.heap[i]?:=fun i hi=>xL _ _ _ _ hi;obtain⟨cs',fz',hc⟩:=h.src.blk;refine⟨(ha _ (qae h.blk hk h1.symm)).trans h.blk,h.src.kept (ha _ (qae hc hk h2.symm)) (fun i s' q hs hv=>?_),h.places.heap (ha _ (qak hk h.places).symm),h.ends.heap (ha _ (qak hk h.ends).symm),h.le,h.apart⟩;obtain⟨cur,Ha⟩:=qac (h.src.row i s' hs) q hv;exact ha q (qae Ha hk h3.symm)
theorem SeAt.cell{F:Fix}(h:SeAt w B F S vv s):∀(j:Nat) (v:Value),(qlm F S.length vv s.fault)[j]?=some v->w.cell? (zO F.g j)=some v:=fun j v hv=>qaa h.blk j v (by simpa using hv)
theorem SeAt.thaw{F:Fix}(h:SeAt w B F S vv s)(j:Nat):w.frozen? (zO F.g j)=false:=by simp[World.frozen?,h.blk]
theorem SeAt.put{F:Fix}(h:SeAt w B F S vv s){l:List (En×Sx)}(hm:qfj w' F.be (qo2 l))(hg:w.grownBy w' (some F.be)):SeAt w' B F S vv { s with ends:=l }:=by
 have hk:∀k,k<w.heap.size->k≠F.be->w'.heap[k]?=w.heap[k]?:=fun k hk ha=>hg.block k hk (fun e=>ha (yk e));exact⟨(hk _ (zL h.blk) h.apart.1).trans h.blk,h.srcKept fun k Ha _ h3=>hk k Ha h3,h.places.heap (hk _ h.places.lt h.apart.2),hm,h.le,h.apart⟩
theorem Cue.put{F:Fix}(hB:B<=F.be)(ha:F.be<w.heap.size)(hg:w.grownBy w' (some F.be)):Cue B F w w':=
 ⟨⟨hg.os,hg.tape,hg.output,hg.size,fun k hk=>hg.block k (by omega) (fun x=>by have:=yk x;omega)⟩,fun k hk _ h2=>hg.block k hk (fun e=>h2 (yk e))⟩
theorem qoj(n:zU):∀(l:List Src) (i:Nat),(qh4 n i l=0->1<=i->∀p∈qbw i l,p.1≠bs n)/\(qh4 n i l≠0->(bs n,Value.int .i64 (qh4 n i l))∈qbw i l)
 |[],i=>⟨fun _ _ p hp=>(by cases hp),fun h=>absurd rfl h⟩
 |s::l,i=>by
   have ih:=qoj n l (i+1);unfold qh4 qbw;by_cases h:s.name=n
   ·rw[if_pos h]
    exact⟨fun h1 h2=>by omega,fun _=>by rw[h];simp⟩
   ·rw[if_neg h]
    refine⟨fun h1 h2 p hp=>?_,fun h1=>yY _ (ih.2 h1)⟩;rcases xu.1 hp with rfl|hp
    ·intro e
     unfold bs at e;injection e with e;injection e with e;exact h (Array.toList_inj.2 e)
    ·exact ih.1 h1 (by omega) p hp
theorem q0z(l:List Src):∀(i:Nat) (p:Value×Value),p∈qbw i l->∃s∈l,p.1=bs s.name:=by
 induction l with
 |nil=>intro i p hp;cases hp
 |cons s l ih=>
   intro i p hp;rcases xu.1 hp with rfl|hp
   ·exact⟨s,by simp,rfl⟩
   ·obtain⟨s',h1,h2⟩:=ih (i+1) p hp
    exact⟨s',yY _ h1,h2⟩
theorem qsv(l:List Src):∀(i k:Nat) (p:Value×Value),(qbw i l)[k]?=some p->∃s,l[k]?=some s/\p.1=bs s.name:=by
 induction l with
 |nil=>intro i k p hp;simp[qbw]at hp
 |cons s l ih=>
   intro i k p hp;cases k with
   |zero=>simp only[qbw,yS,Option.some.injEq]at hp;subst hp;exact⟨s,rfl,rfl⟩
   |succ k=>
     obtain⟨s',h1,h2⟩:=ih (i+1) k p (by simpa [qbw]using hp);exact⟨s',by simpa using h1,h2⟩
structure SrcsOk(S:List Src):Prop where
 few:1<=S.length/\S.length<=7
 one:∀(i j:Nat) (a b:Src),1<=i->1<=j->S[i]?=some a->S[j]?=some b->a.name=b.name->i=j
 short:∀(i:Nat) (a:Src),S[i]?=some a->a.name.length<=100000
 parts:∀(i:Nat) (a:Src),S[i]?=some a->a.parts.length<=2000/\∀p∈a.parts,p.text.length<=2000/\p.pos<=2000/\p.mate<=2000
 wf:∀(i:Nat) (a:Src),S[i]?=some a->Wf 0 a.parts
theorem zhr{a b:zU}(h:bs a=bs b):a=b:=by
 unfold bs at h;injection h with h;injection h with h;exact Array.toList_inj.2 h
theorem q0a(s:zT)(h:s.size<=maxLen):∃l,keyOf prog 9 (.string s)=some l:=by
 unfold keyOf mapKey;simp[underlying9,h]
theorem q2b(l:zU):(⟨l.toArray⟩:zT).size=l.length:=by simp[ByteArray.size]
theorem qqk(h:SrcsOk S):KeysOk prog 9 (qbw 1 (S.drop 1)):=by
 refine⟨fun p hp=>?_,fun i j p q hi hj ha=>?_⟩
 ·obtain⟨s,hs,e⟩:=q0z _ _ _ hp
  obtain⟨k,hk⟩:=xo (List.mem_of_mem_drop hs);rw[e];exact q0a _ (by rw[q2b];have:=h.short k s hk;unfold maxLen;omega)
 ·obtain⟨a,h1,h2⟩:=qsv _ _ _ _ hi
  obtain⟨b,h3,h4⟩:=qsv _ _ _ _ hj;rw[List.getElem?_drop]at h1 h3;have:=h.one (1+i) (1+j) a b (by omega) (by omega) h1 h3 (zhr (by rw[<-h2,<-h4,ha]));omega
theorem q3a(w:World):(zeroValue 3).run prog w=.ok (zI 0) w:=by
 have e:t3.zero=some (zI 0):=by kernel_rfl
 simp[zeroValue,go_sem,e]
theorem SeAt.place{F:Fix}(h:SeAt w B F S vv s)(hS:SrcsOk S)(n:zU)(hn:n.length<=100000):(Instr.lookup 174 (.map (some F.bp)) (zV n) false).run prog w=.ok (zI (qaj S n:Nat)) w:=by
 obtain⟨kl,ha⟩:=q0a ⟨n.toArray⟩ (by rw[q2b];unfold maxLen;omega);obtain⟨f1,f2⟩:=qoj n (S.drop 1) 1;by_cases h0:qaj S n=0
 ·rw[h0]
  exact qix qno underlying174 (q3a w) h.places (qqk hS) ha (f1 h0 (yg _)) false
 ·exact qh3 qno underlying174 h.places (qqk hS) ha (f2 h0) false
theorem qvq{i:Nat}{p:Value×Value}(h:(qo2 l)[i]?=some p):∃q,l[i]?=some q/\p=(qge q.1,qar q.2):=by
 unfold qo2 at h;rw[yz]at h;obtain⟨q,h1,h2⟩:=yy.1 h;exact⟨q,h1,h2.symm⟩
theorem qm1{n:Nat}(h:EndsOk n l)(hn:n<=7):KeysOk prog 180 (qo2 l):=by
 refine⟨fun p hp=>?_,fun i j p q hi hj ha=>?_⟩
 ·obtain⟨i,hi⟩:=xo hp
  obtain⟨r,h1,rfl⟩:=qvq hi;have:=h.key r (yl h1);exact qtj this.1.ok this.1.far (by omega)
 ·obtain⟨a,h1,rfl⟩:=qvq hi
  obtain⟨b,h2,rfl⟩:=qvq hj;exact h.one i j a b h1 h2 (qj5 ha)
theorem q4m(w:World):(zeroValue 162).run prog w=.ok (qar Sx.none) w:=by
 have e:qar Sx.none=.agg #[zJ 0,zS,zS,zI 0,zI 0,.bool false,.bool false,zI 0,zI 0,zI 0]:=rfl;rw[e];have e:t162.zero=some (.agg #[zJ 0,zS,zS,zI 0,zI 0,.bool false,.bool false,zI 0,zI 0,zI 0]):=by kernel_rfl
 simp[zeroValue,go_sem,e]
theorem qyi(h:qa9 l e=none):∀p∈qo2 l,p.1≠qge e:=by
 intro p hp;unfold qo2 at hp;obtain⟨q,h1,rfl⟩:=xt.1 hp;exact fun x=>qly h q h1 (qj5 x)
theorem q9z{x:Sx}(h:qa9 l e=some x):(qge e,qar x)∈qo2 l:=xt.2 ⟨(e,x),qg3 h,rfl⟩
theorem SeAt.look{F:Fix}(h:SeAt w B F S vv s)(hS:SrcsOk S)(ho:EndsOk S.length s.ends)(e:En)(he:SxFit e.2)(hi:e.1<=6)(c:Bool) :
  (Instr.lookup 175 (.map (some F.be)) (qge e) c).run prog w=.ok (if c then .tuple #[qar ((qa9 s.ends e).getD Sx.none),.bool (qa9 s.ends e).isSome]else qar ((qa9 s.ends e).getD Sx.none)) w:=by
 obtain⟨kl,ha⟩:=qtj he.ok he.far hi;cases hg:qa9 s.ends e with
 |none=>exact qix qem underlying175 (q4m w) h.ends (qm1 ho hS.few.2) ha (qyi hg) c
 |some x=>exact qh3 qem underlying175 h.ends (qm1 ho hS.few.2) ha (q9z hg) c
theorem SeAt.store{F:Fix}(h:SeAt w B F S vv s)(hS:SrcsOk S)(ho:EndsOk S.length s.ends)(e:En)(he:SxFit e.2)(hi:e.1<=6)(x:Sx) :
  ∃w',(Instr.mapUpdate 175 (.map (some F.be)) (qge e) (qar x)).run prog w=.ok () w'/\SeAt w' B F S vv { s with ends:=qbi s.ends e x }/\Cue B F w w'/\w'.heap.size=w.heap.size:=by
 obtain⟨kl,ha⟩:=qtj he.ok he.far hi;cases hg:qa9 s.ends e with
 |none=>
   obtain⟨w',h1,h2,h3,h4⟩:=qiw (val:=qar x) qem underlying175 h.ends (qm1 ho hS.few.2) ha (qyi hg);refine⟨w',h1,h.put ?_ h3,Cue.put h.le.2 h.ends.lt h3,h4⟩;rw[qfg hg];unfold qo2 at h2 |-;rw[yG];exact h2
 |some y=>
   obtain⟨i,i1,i2⟩:=qif hg x;obtain⟨w',h1,h2,h3,h4⟩:=qk9 (val:=qar x) (v:=qar y) qem underlying175 h.ends (qm1 ho hS.few.2) ha i (by unfold qo2;rw[yz,i1];rfl);refine⟨w',h1,h.put ?_ h3,Cue.put h.le.2 h.ends.lt h3,h4⟩;rw[i2];unfold qo2 at h2 |-;rw[List.map_set];exact h2
end
variable{w w0:World}{g:Nat}{s:Sx}
theorem SxAt.alloc(h:SxAt w g s)(hg:g<w.heap.size)(o:Obj):SxAt (w.alloc o) g s:=h.kept ((xM _ w).alloc (yg _) o) hg
theorem SxAt.setFar(h:SxAt w g s)(r:Int):SxAt (w.setCell (zO g 9) (zI r)) g ⟨⟨s.st.mode,s.st.name,s.st.elem,s.st.kind,s.st.read,s.st.esc⟩,⟨s.ma.ref,s.ma.hex,s.ma.pct,r⟩⟩:=
 ⟨(xN _ _ _ _ (by simp)).trans h.mode,(xN _ _ _ _ (by simp)).trans h.name,(xN _ _ _ _ (by simp)).trans h.elem,(xN _ _ _ _ (by simp)).trans h.kind,(xN _ _ _ _ (by simp)).trans h.read,(xN _ _ _ _ (by simp)).trans h.ref,(xN _ _ _ _ (by simp)).trans h.esc,(xN _ _ _ _ (by simp)).trans h.hex,(xN _ _ _ _ (by simp)).trans h.pct,xO _ _ _ h.far⟩
structure Mid(w0 w:World)(g:Nat)(s:Sx):Prop where
 eq:w0.heap.size=g
 tabs0:PTabs w0
 below:zW w0 w
 at':SxAt w g s
 slot:qet 10 w g
 res:qet 10 w (g+1)
theorem Mid.kept{w':World}(h:Mid w0 w g s)(hb:zW w w'):Mid w0 w' g s:=
 ⟨h.eq,h.tabs0,h.below.trans (hb.mono h.below.size),h.at'.kept hb h.slot.lt,h.slot.kept hb h.slot.lt,h.res.kept hb h.res.lt⟩
theorem Mid.alloc(h:Mid w0 w g s)(o:Obj):Mid w0 (w.alloc o) g s:=h.kept ((xM _ w).alloc (yg _) o)
theorem Mid.drew(h:Mid w0 w g s):Mid w0 w.drew g s:=h.kept (xM _ w).drew
theorem Mid.setFar(h:Mid w0 w g s)(r:Int):Mid w0 (w.setCell (zO g 9) (zI r)) g ⟨⟨s.st.mode,s.st.name,s.st.elem,s.st.kind,s.st.read,s.st.esc⟩,⟨s.ma.ref,s.ma.hex,s.ma.pct,r⟩⟩:=
 ⟨h.eq,h.tabs0,h.below.setCell (p:=zO g 9) (Nat.le_of_eq h.eq) _,h.at'.setFar r,h.slot.set _ _,h.res.set _ _⟩
theorem qx2(b:UInt8)(w:World)(h:among b hexB=true) :
  zC 130 #[.string ⟨#[48,49,50,51,52,53,54,55,56,57,97,98,99,100,101,102,65,66,67,68,69,70]⟩,zJ b.toNat] w fun e w'=>∃x:Int,0<=x/\e=.returned (zI x)/\w=w':=
 qb7 b _ hexB w rfl h
theorem q1m(b:UInt8)(w:World)(h:among b hexB=false) :
  zC 130 #[.string ⟨#[48,49,50,51,52,53,54,55,56,57,97,98,99,100,101,102,65,66,67,68,69,70]⟩,zJ b.toNat] w (zQ (zI (-1)) w):=
 qci b _ hexB w rfl h
theorem qyc(left:Int)(b:UInt8)(w:World)(h0:-1000<=left)(h1:left<=1000) :
  zC 182 #[zI left,zJ b.toNat] w (zQ (zI (qds left b)) w):=by
 by_cases hl:0<left
 ·by_cases hb:among b hexB=true
  ·have HV:Hid (qds left b=left - 1):=by show _=_;unfold qds;rw[if_pos ⟨hl,hb⟩]
   have hw:IntKind.i64.wrap (left - 1)=left - 1:=by rw[IntKind.wrap_i64];omega
   go_enter func182,ntmps182
   go_wp2_with (go_at_call 130;refine(qx2 b _ hb).mono ?_;rintro e w' ⟨x,hx,rfl,rfl⟩)
   go_ret
   exact⟨qal (by rw[HV.out]),rfl⟩
  ·have hb:=ye.2 hb
   have HV:Hid (qds left b=0):=by show _=_;unfold qds;rw[if_neg (fun q=>by rw[hb]at q;exact absurd q.2 (by simp))]
   go_enter func182,ntmps182
   go_wp2_with (go_at_call 130;refine cm (q1m b _ hb) ?_)
   go_ret
   exact⟨qal (by rw[HV.out]),rfl⟩
 ·have HV:Hid (qds left b=0):=by show _=_;unfold qds;rw[if_neg (fun q=>hl q.1)]
  have ha:decide (0<left)=false:=by rw[yO];exact hl
  go_enter func182,ntmps182
  go_wp2
  go_ret
  exact⟨qal (by rw[HV.out]),rfl⟩
theorem q9c(b:UInt8)(w:World) :
  zC 183 #[zJ b.toNat] w (zQ (.bool (qxy b)) w):=by
 unfold qxy;by_cases h1:qbl b=true
 ·rw[h1,Bool.true_or]
  go_enter func183,ntmps183
  go_wp2_with (go_at_call 132;refine cm (qby b _) ?_;rw[h1])
  go_ret
  exact⟨rfl,rfl⟩
 ·have h1:=ye.2 h1
  rw[h1,Bool.false_or];by_cases h2:qea b=true
  ·rw[h2,Bool.true_or]
   go_enter func183,ntmps183
   go_wp2_with (first|(go_at_call 132;refine cm (qby b _) ?_;rw[h1])|(go_at_call 102;refine cm (qde b _) ?_;rw[h2]))
   go_ret
   exact⟨rfl,rfl⟩
  ·have h2:=ye.2 h2
   rw[h2,Bool.false_or];have h3:((b.toNat:Int)==35)=(b==35):=qil b 35 (by omega);go_enter func183,ntmps183
   go_wp2_with (first|(go_at_call 132;refine cm (qby b _) ?_;rw[h1])|(go_at_call 102;refine cm (qde b _) ?_;rw[h2]))
   go_ret
   exact⟨rfl,rfl⟩
theorem ql8(m:Nat)(w:World) :
  zC 154 #[zJ m] w (zQ (zI (qa0 m)) w):=by
 by_cases hh:m=1\/m=19\/m=8\/m=9\/m=21\/m=22\/m=29\/m=30
 ·rcases hh with rfl | rfl | rfl | rfl | rfl | rfl | rfl | rfl
  all_goals
   go_enter func154,ntmps154
   go_wp2
   go_ret
   exact⟨rfl,rfl⟩
 ·have HV:Hid (qa0 m=0):=by show _=_;unfold qa0;rw[if_neg (by omega),if_neg (by omega),if_neg (by omega)]
  have q1:((m:Int)==1)=false:=by rw[yf];omega
  have q2:((m:Int)==19)=false:=by rw[yf];omega
  have q3:((m:Int)==8)=false:=by rw[yf];omega
  have q4:((m:Int)==9)=false:=by rw[yf];omega
  have q5:((m:Int)==21)=false:=by rw[yf];omega
  have q6:((m:Int)==22)=false:=by rw[yf];omega
  have q7:((m:Int)==29)=false:=by rw[yf];omega
  have q8:((m:Int)==30)=false:=by rw[yf];omega
  clear hh;go_enter func154,ntmps154
  go_wp2
  go_ret
  exact⟨qal (by rw[HV.out]),rfl⟩
theorem beqN(a b:Nat):((a:Int)==(b:Int))=(a==b):=by rw[xi];simp only[yF,Int.natCast_inj]
theorem qkt(x:Sx)(w:World) :
  zC 153 #[qar x] w fun e w'=>e=.returned (.bool (qb4 x.st.kind x.st.mode))/\w.alloc (.cells (qaf x) 162)=w':=by
 unfold qb4 qar qaf bs;by_cases h1:(x.st.kind==1)=true
 ·rw[h1,Bool.true_and]
  by_cases h2:x.st.mode=8
  ·have ha:((x.st.mode:Int)==8)=true:=by rw[h2];rfl
   have HV:Hid ((x.st.mode==8 || x.st.mode==9)=true):=by show _=_;rw[h2];rfl
   rw[HV.out];clear h2;go_enter func153,ntmps153
   go_wp2
   go_ret
   exact⟨rfl,rfl⟩
  ·have ha:((x.st.mode:Int)==8)=false:=by rw[yf];omega
   have HV:Hid ((x.st.mode==8 || x.st.mode==9)=((x.st.mode:Int)==9)):=by
    show _=_;rw[show((9:Int))=((9:Nat):Int)from rfl,beqN,yf.2 h2,Bool.false_or]
   rw[HV.out];clear h2;go_enter func153,ntmps153
   go_wp2
   go_ret
   exact⟨rfl,rfl⟩
 ·have h1:=ye.2 h1
  rw[h1,Bool.false_and];go_enter func153,ntmps153
  go_wp2
  go_ret
  exact⟨rfl,rfl⟩
theorem qu0(x:Sx)(w:World) :
  zC 111 #[qar x] w fun e w'=>e=.returned (.bool (x.st.mode==0))/\w.alloc (.cells (qaf x) 162)=w':=by
 unfold qar qaf bs;by_cases h:x.st.mode=0
 ·have hb:(x.st.mode==0)=true:=yF.2 h
  rw[hb,h];clear hb;go_enter func111,ntmps111
  go_wp2
  go_ret
  exact⟨rfl,rfl⟩
 ·have hb:(x.st.mode==0)=false:=yf.2 h
  have hi:((x.st.mode:Int)==0)=false:=by rw[yf];omega
  rw[hb];clear hb;go_enter func111,ntmps111
  go_wp2
  go_ret
  exact⟨rfl,rfl⟩
theorem q1n(x:Sx)(w:World) :
  zC 155 #[qar x] w fun e w'=>e=.returned (.bool x.halfway)/\w.alloc (.cells (qaf x) 162)=w':=by
 have HV:Hid (x.halfway=(x.ma.ref || (x.st.esc || (decide (0<x.ma.hex) || (decide (0<x.ma.pct) || decide ((0:Int)<(x.st.read:Int))))))):=by
  show _=_;unfold Sx.halfway
  congr 4
  exact decide_eq_decide.2 (by omega)
 rw[HV.out];clear HV;unfold qar qaf bs;generalize x.ma.ref=r;generalize x.st.esc=z;generalize x.ma.hex=h;generalize x.ma.pct=p;generalize (x.st.read:Int)=d;cases r with
 |true=>
   go_enter func155,ntmps155
   go_wp2
   go_ret
   exact⟨rfl,rfl⟩
 |false=>
   cases z with
   |true=>
     go_enter func155,ntmps155
     go_wp2
     go_ret
     exact⟨rfl,rfl⟩
   |false=>
     by_cases c1:0<h
     ·rw[yV c1]
      go_enter func155,ntmps155
      go_wp2
      go_ret
      exact⟨rfl,rfl⟩
     ·rw[yx c1]
      have c1:h<=0:=by omega
      by_cases c2:0<p
      ·rw[yV c2]
       go_enter func155,ntmps155
       go_wp2
       go_ret
       exact⟨rfl,rfl⟩
      ·rw[yx c2]
       have c2:p<=0:=by omega
       by_cases c3:0<d
       ·rw[yV c3]
        go_enter func155,ntmps155
        go_wp2
        go_ret
        exact⟨rfl,rfl⟩
       ·rw[yx c3]
        have c3:d<=0:=by omega
        go_enter func155,ntmps155
        go_wp2
        go_ret
        exact⟨rfl,rfl⟩
theorem qy8{P:Program}{fn:Func}{R:Ending->World->Prop}{a:Act}{w:World}{t u:Tmp}(h:fn.results=#[.tmp t,.tmp u])(ha:a.defers=[])(x y:Value)(hx:a.tmps.getD t undef=x)(hy:a.tmps.getD u undef=y)(hR:R (.returned (.tuple #[x,y])) w):bodyPost P fn R .ret a w:=by
 subst hx hy;refine bodyPost_ret ?_ ha hR;simp[results,h]
theorem q9f(x:Sx)(w:World) :
  zC 108 #[qar x] w (zR (.tuple #[zI x.hole.1,zI x.hole.2]) w):=by
 have hW:=fun w=>ql8 x.st.mode w;have hH:=fun w=>q1n x w;have hI:=fun w=>qkt x w;by_cases h0:qa0 x.st.mode=0
 case' pos=>
  have HV:Hid (x.hole=(0,10)):=by
   show _=_;unfold Sx.hole;rw[if_pos h0]
  rw[HV.out];clear HV;rw[h0]at hW;clear h0;unfold qar qaf bs at hH hI |-
 case' neg=>
  by_cases h1:x.st.kind=2
  case' pos=>
   have HV:Hid (x.hole=(0,11)):=by
    show _=_;unfold Sx.hole;rw[if_neg h0,if_pos h1]
   rw[HV.out];clear HV;have c0:((qa0 x.st.mode:Int)==0)=false:=by rw[yf];omega
   unfold qar qaf bs;rw[h1];unfold qar qaf bs at hH hI;rw[h1]at hH hI;clear h0 h1;generalize (qa0 x.st.mode:Int)=a at hW c0
  case' neg=>
   by_cases h2:x.halfway=true
   case' pos=>
    have HV:Hid (x.hole=(0,12)):=by
     show _=_;unfold Sx.hole;rw[if_neg h0,if_neg h1,if_pos h2]
    rw[HV.out];clear HV;have c0:((qa0 x.st.mode:Int)==0)=false:=by rw[yf];omega
    have c1:((x.st.kind:Int)==2)=false:=by rw[yf];exact h1
    rw[h2]at hH;clear h0 h1 h2;generalize (qa0 x.st.mode:Int)=a at hW c0;unfold qar qaf bs at hH hI |-
   case' neg=>
    by_cases h3:qb4 x.st.kind x.st.mode=true
    case' neg=>
     have HV:Hid (x.hole=(qa0 x.st.mode,0)):=by
      show _=_;unfold Sx.hole;rw[if_neg h0,if_neg h1,if_neg h2,if_neg (fun q=>h3 q.1),if_neg h3]
     rw[HV.out];clear HV;have c0:((qa0 x.st.mode:Int)==0)=false:=by rw[yf];omega
     have c1:((x.st.kind:Int)==2)=false:=by rw[yf];exact h1
     rw[ye.2 h2]at hH;rw[ye.2 h3]at hI;clear h0 h1 h2 h3;simp only;generalize (qa0 x.st.mode:Int)=a at hW c0 |-;unfold qar qaf bs at hH hI |-
    case' pos=>
     by_cases h4:x.ma.far=0
     case' pos=>
      have HV:Hid (x.hole=(2,0)):=by
       show _=_;unfold Sx.hole;rw[if_neg h0,if_neg h1,if_neg h2,if_pos ⟨h3,h4⟩]
      rw[HV.out];clear HV;have c0:((qa0 x.st.mode:Int)==0)=false:=by rw[yf];omega
      have c1:((x.st.kind:Int)==2)=false:=by rw[yf];exact h1
      rw[ye.2 h2]at hH;rw[h3]at hI;unfold qar qaf bs at hH hI |-;rw[h4]at hH hI |-;clear h0 h1 h2 h3 h4;generalize (qa0 x.st.mode:Int)=a at hW c0
     case' neg=>
      have HV:Hid (x.hole=(3,0)):=by
       show _=_;unfold Sx.hole;rw[if_neg h0,if_neg h1,if_neg h2,if_neg (fun q=>h4 q.2),if_pos h3]
      rw[HV.out];clear HV;have c0:((qa0 x.st.mode:Int)==0)=false:=by rw[yf];omega
      have c1:((x.st.kind:Int)==2)=false:=by rw[yf];exact h1
      rw[ye.2 h2]at hH;have c4:((x.ma.far:Int)==0)=false:=by rw[yf];exact h4
      rw[h3]at hI;clear h0 h1 h2 h3 h4;generalize (qa0 x.st.mode:Int)=a at hW c0;unfold qar qaf bs at hH hI |-
 all_goals
  have HW:=zH hW;have HH:=zH hH;have HI:=zH hI;clear hW hH hI;go_enter func108,ntmps108
  go_wp2_with (first
   |(go_at_call 154;refine(HW.out _).mono ?_;rintro e w' ⟨rfl,rfl⟩)
   |(go_at_call 155;refine(HH.out _).mono ?_;rintro e w' ⟨rfl,rfl⟩)
   | (go_at_call 153;refine(HI.out _).mono ?_;rintro e w' ⟨rfl,rfl⟩))
  refine qy8 results108 rfl _ _ rfl rfl ?_;exact⟨rfl,by repeat(first|exact xM _ _|refine Below.alloc ?_ (by simp<;>omega) _)⟩
theorem qkd(x:Sx)(w:World) :
  zC 109 #[qar x] w (zR (qar x.behindHole) w):=by
 have hI:=fun w=>qkt x w;by_cases h3:qb4 x.st.kind x.st.mode=true
 case' neg=>
  have HV:Hid (x.behindHole=x):=if_neg (fun q=>h3 q.1);rw[HV.out];rw[ye.2 h3]at hI
 case' pos=>
  rw[h3]at hI;by_cases h4:x.ma.far<2
  case' pos=>
   have HV:Hid (x.behindHole=⟨x.st,⟨x.ma.ref,x.ma.hex,x.ma.pct,2⟩⟩):=if_pos ⟨h3,h4⟩;rw[HV.out]
  case' neg=>
   have HV:Hid (x.behindHole=x):=if_neg (fun q=>h4 q.2);rw[HV.out];have c4:2<=x.ma.far:=by omega
   clear h4
 all_goals
  unfold qar qaf bs at hI |-;have HI:=zH hI;clear hI h3 HV;go_enter func109,ntmps109
  go_wp2_with (go_at_call 153;refine(HI.out _).mono ?_;rintro e w' ⟨rfl,rfl⟩)
  refine bodyPost_ret (qbn results109 _ _ (w.heap.size+1) _ _ rfl (qaa ((xJ _ _ (by simp)).trans (qap (w.alloc _) _ _ (by simp)))) underlying162 rfl (by kernel_rfl)) rfl ?_;exact⟨rfl,by repeat(first|exact xM _ _|refine Below.alloc ?_ (by simp<;>omega) _)⟩
variable{B G R:Nat}{w w' wr:World}{x:Sx}{F:Fix}{S:List Src}{vv:Value}{s:Sr}
def TabB(B:Nat)(w:World):Prop:=PTabs w/\∃w0,PTabs w0/\w0.heap.size<=B
theorem TabB.kept(h:TabB B w)(hb:Below B w w'):TabB B w':=by
 obtain⟨h1,w0,h2,h3⟩:=h;exact⟨h1.kept' h2 (hb.mono h3),w0,h2,h3⟩
def qhp:Prop:=∀(x:Sx) (b:UInt8) (w:World),PTabs w->SxOk x ->
    zC 63 #[qar x,zJ b.toNat] w (zR (qar (x.behind b)) w)
def BehC(S:List Src)(k:Nat):Prop:=∀(w:World) (B:Nat) (F:Fix) (vv:Value) (s:Sr) (n:zU) (x:Sx),SeAt w B F S vv s->EndsOk S.length s.ends->257<=s.ends.length+k->SxFit x->n.length<=2000->TabB B w ->
    zC 156 #[zP F.g,zV n,qar x] w fun e w'=>e=.returned (qar (behV S k s n x).2)/\SeAt w' B F S vv (behV S k s n x).1/\Cue B F w w'
def qao(e:En):Array Value:=#[zI e.1,zJ (e.2.st.mode:Int),bs e.2.st.name,bs e.2.st.elem,zI e.2.st.kind,zI (e.2.st.read:Int),.bool e.2.ma.ref,.bool e.2.st.esc,zI e.2.ma.hex,zI e.2.ma.pct,zI e.2.ma.far]
theorem qbj(e:En):qge e=.agg (qao e):=rfl
def StIn(w:World)(G:Nat)(x:Sx):Prop:=w.heap[G]?=zK (qaf x) 162
theorem StIn.at'(h:StIn w G x):SxAt w G x:=by
 have c:=qaa h;exact⟨c 0 _ rfl,c 1 _ rfl,c 2 _ rfl,c 3 _ rfl,c 4 _ rfl,c 5 _ rfl,c 6 _ rfl,c 7 _ rfl,c 8 _ rfl,c 9 _ rfl⟩
theorem StIn.slot(h:StIn w G x):qet 10 w G:=⟨_,_,h,rfl⟩
theorem StIn.lt(h:StIn w G x):G<w.heap.size:=(ya.1 h).1
theorem StIn.below(h:StIn w G x)(hb:zW w w'):StIn w' G x:=(hb.block _ h.lt).trans h
theorem qhu{g:Nat}{t:TypeId}:∀(l:List Value) (w:World) (k:Nat) (pre old:List Value),w.heap[g]?=zK ((pre++old).toArray) t->pre.length=k->old.length=l.length->(qg9 w g k l).heap[g]?=zK ((pre++l).toArray) t
 |[],w,k,pre,old,h,_,ho=>by
   have:old=[]:=List.length_eq_zero_iff.1 ho;subst this;exact h
 |v::l,w,k,pre,old,h,hk,ho=>by
   cases old with
   |nil=>simp at ho
   |cons u old=>
     show(qg9 (w.setCell (zO g k) v) g (k+1) l).heap[g]?=_;have h1:=xH w g k _ t v h;have e:(pre++u::old).toArray.setIfInBounds k v=((pre++[v])++old).toArray:=by
      rw[List.setIfInBounds_toArray,List.set_append_right _ _ (by omega),hk,xA];simp
     rw[e]at h1;have:=qhu l _ (k+1) (pre++[v]) old h1 (by simp[hk]) (by simpa using ho);rw[this];simp
theorem StIn.set(h:StIn w G x)(y:Sx):StIn (qdf w G (zJ (y.st.mode:Int)) (zV y.st.name) (zV y.st.elem) (zI y.st.kind) (zI (y.st.read:Int)) (.bool y.ma.ref) (.bool y.st.esc) (zI y.ma.hex) (zI y.ma.pct) (zI y.ma.far)) G y:=by
 unfold StIn at h |-;rw[quo];exact qhu (t:=162) _ w 0 [] (qaf x).toList (by simpa using h) rfl rfl
theorem qha{k:Nat}(h:k≠G)(v0 v1 v2 v3 v4 v5 v6 v7 v8 v9:Value):(qdf w G v0 v1 v2 v3 v4 v5 v6 v7 v8 v9).heap[k]?=w.heap[k]?:=by
 have e:∀(w:World) (j:Nat) (v:Value),(w.setCell (zO G j) v).heap[k]?=w.heap[k]?:=fun w j v=>xL _ _ _ _ h;unfold qdf;rw[e,e,e,e,e,e,e,e,e,e]
theorem qb5:(162:TypeId)≠178:=by decide
theorem qpv:(162:TypeId)≠173:=by decide
theorem qua:(162:TypeId)≠229:=by decide
theorem SeAt.far(h:SeAt w B F S vv s){G:Nat}{x:Sx}(hG:StIn w G x)(hk:∀k,k≠G->w'.heap[k]?=w.heap[k]?):SeAt w' B F S vv s:=by
 obtain⟨cs',fz',hc⟩:=h.src.blk;refine⟨(hk _ (qae h.blk hG qb5.symm)).trans h.blk,h.src.kept (hk _ (qae hc hG qpv.symm)) (fun i s' q hs hv=>?_),h.places.heap (hk _ (qak hG h.places).symm),h.ends.heap (hk _ (qak hG h.ends).symm),h.le,h.apart⟩;obtain⟨cur,ha⟩:=qac (h.src.row i s' hs) q hv;exact hk q (qae ha hG qua.symm)
structure Wki(w wr:World)(B:Nat)(F:Fix)(S:List Src)(vv:Value)(s:Sr)(G R:Nat)(x:Sx):Prop where
 se:SeAt wr B F S vv s
 now:StIn wr G x
 res:StIn wr R Sx.none
 ne:G≠R
 old:w.heap.size<=G/\w.heap.size<=R/\B<=w.heap.size
 cue:Cue B F w wr
 tabs:TabB B wr
theorem Wki.below(h:Wki w wr B F S vv s G R x)(hb:zW wr w'):Wki w w' B F S vv s G R x:=
 have hB:B<=wr.heap.size:=yh h.old.2.2 h.cue.below.size
 ⟨h.se.below hb,h.now.below hb,h.res.below hb,h.ne,h.old,h.cue.trans (Cue.of_below hb hB),h.tabs.kept (hb.mono hB)⟩
theorem Wki.alloc(h:Wki w wr B F S vv s G R x)(o:Obj):Wki w (wr.alloc o) B F S vv s G R x:=h.below (zB o)
theorem Wki.drewN(h:Wki w wr B F S vv s G R x)(n:Nat):Wki w (wr.drewN n) B F S vv s G R x:=h.below (qat (xM _ _) n)
theorem Wki.set(h:Wki w wr B F S vv s G R x)(y:Sx):Wki w (qdf wr G (zJ (y.st.mode:Int)) (zV y.st.name) (zV y.st.elem) (zI y.st.kind) (zI (y.st.read:Int)) (.bool y.ma.ref) (.bool y.st.esc) (zI y.ma.hex) (zI y.ma.pct) (zI y.ma.far)) B F S vv s G R y:=by
 have ha:=fun k (hk:k≠G)=>qha (w:=wr) hk (zJ (y.st.mode:Int)) (zV y.st.name) (zV y.st.elem) (zI y.st.kind) (zI (y.st.read:Int)) (.bool y.ma.ref) (.bool y.st.esc) (zI y.ma.hex) (zI y.ma.pct) (zI y.ma.far);have Ha:Below G wr (qdf wr G (zJ (y.st.mode:Int)) (zV y.st.name) (zV y.st.elem) (zI y.st.kind) (zI (y.st.read:Int)) (.bool y.ma.ref) (.bool y.st.esc) (zI y.ma.hex) (zI y.ma.pct) (zI y.ma.far)):=qfe (xM _ _) (yg _) _ _ _ _ _ _ _ _ _ _;have hs:=h.now.set y;generalize qdf wr G _ _ _ _ _ _ _ _ _ _=w' at ha Ha hs |-;refine⟨h.se.far h.now ha,hs,(ha _ h.ne.symm).trans h.res,h.ne,h.old,⟨h.cue.below.trans (Ha.mono (yh h.old.2.2 h.old.1)),fun k hk h1 h2=>(ha k (by have:=h.old.1;omega)).trans (h.cue.keep k hk h1 h2)⟩,h.tabs.kept (Ha.mono (yh h.old.2.2 h.old.1))⟩
theorem Wki.turn{s':Sr}(h:Wki w wr B F S vv s G R x)(hs:SeAt w' B F S vv s')(hc:Cue B F wr w'):Wki w w' B F S vv s' G R x:=by
 have h1:=hc.keep G h.now.lt (fun e=>qae h.se.blk h.now qb5.symm e.symm) (qak h.now h.se.ends);have h2:=hc.keep R h.res.lt (fun e=>qae h.se.blk h.res qb5.symm e.symm) (qak h.res h.se.ends);exact⟨hs,h1.trans h.now,h2.trans h.res,h.ne,h.old,h.cue.trans hc,h.tabs.kept hc.below⟩
namespace Pl
theorem qxz(b:UInt8):qc2 b=(b==95 || (qea b || (decide (97<=b.toNat) && decide (b.toNat<=122)))):=rfl
theorem zdq(f:UInt8->Bool)(s:zT)(k:Nat)(h:k<s.size)(h0:(s.data.toList.take k).all f=true)(h1:f s[k]=true):(s.data.toList.take (k+1)).all f=true:=by
 rw[qdn s k h,List.all_append,h0];simp[h1]
theorem zhs(f:UInt8->Bool)(s:zT)(k:Nat)(h:k<s.size)(h1:f s[k]=false):s.data.toList.all f=false:=by
 rw[quk s k h,List.all_append];simp[h1]
theorem zgl(f:UInt8->Bool)(s:zT)(k:Nat)(h:¬k<s.size)(h0:(s.data.toList.take k).all f=true):s.data.toList.all f=true:=by
 rw[<-qeo s k (by omega)];exact h0
theorem q5x(s:zT)(h1:s.size≠0)(h2:s.size<=8):qa4 s.data.toList=s.data.toList.all qc2:=by
 unfold qa4;have e1:s.data.toList.isEmpty=false:=by
  rw[List.isEmpty_eq_false_iff];intro q;apply h1;have:=yE List.length q;simpa using this
 have e2:decide (s.data.toList.length<=8)=true:=yV (by simpa using h2);rw[e1,e2];rfl
theorem qxt(s:zT)(h2:¬s.size<=8):qa4 s.data.toList=false:=by
 unfold qa4;have e2:decide (s.data.toList.length<=8)=false:=yx (by simpa using h2);rw[e2];simp
end Pl
theorem qda(s:zT)(w:World) :
  zC 72 #[.string s] w (zQ (.bool (Pl.qa4 s.data.toList)) w):=by
 by_cases h0:s.size=0
 ·obtain rfl:s=⟨#[]⟩:=xj (Array.eq_empty_of_size_eq_zero h0)
  go_enter func72,ntmps72
  go_wp2
  go_ret
  exact⟨rfl,rfl⟩
 have HE:Hid ((s.toList.isEmpty)=false):=by
  show _=_;rw[Lib.toList_data,List.isEmpty_eq_false_iff];intro q;apply h0;have:=yE List.length q;simpa using this
 have c0:=HE.out;by_cases h8:s.size<=8
 rotate_left
 ·have HV:=zH (Pl.qxt s h8)
  have c8:(8:Int)<(s.size:Int):=by omega
  clear h8;go_enter func72,ntmps72
  go_wp2
  go_ret
  exact⟨qas HV.out.symm,rfl⟩
 have HV:=zH (Pl.q5x s h0 h8);have c8:¬(8:Int)<(s.size:Int):=by omega
 go_enter func72,ntmps72
 go_wp2
 clear c0 c8;go_loop [14] (fun i=>∃k:Nat,k<=s.size/\i=zI k/\Hid ((s.data.toList.take k).all Pl.qc2=true)) (fun i=>s.size - (intOf i).toNat)
 case atStart=>exact⟨0,yH _,rfl,rfl⟩
 case round=>
  obtain⟨k,hk,rfl,HN⟩:=hrel;by_cases ha:k<s.size
  ·have HB:Hid (∀x,Pl.qc2 s[k]=x->(x=true->(s.data.toList.take (k+1)).all Pl.qc2=true)/\(x=false->s.data.toList.all Pl.qc2=false)):=by
    rintro x rfl;exact⟨fun q=>Pl.zdq _ s k ha HN.out q,fun q=>Pl.zhs _ s k ha q⟩
   have HI:=zH (Pl.qxz s[k]);by_cases d1:s[k]=95
   ·have HT:=(show Hid _ from(HB.out true (by rw[HI.out,d1];rfl)).1 rfl)
    have e1:(s[k].toNat:Int)=95:=by rw[d1];rfl
    clear HB HI HN d1;go_wp2_with (go_at_call 102;refine cm (qde s[k] _) ?_)
    go_round
    case rel=>exact⟨k+1,by omega,by go_num,HT⟩
    case measure=>simp[intOf];omega
   ·have e1:¬(s[k].toNat:Int)=95:=fun q=>d1 (UInt8.toNat_inj.1 (show s[k].toNat=95 by omega))
    by_cases d2:Pl.qea s[k]=true
    ·have HT:=(show Hid _ from(HB.out true (by rw[HI.out,d2];simp)).1 rfl)
     clear HB HI HN d1;go_wp2_with (go_at_call 102;refine cm (qde s[k] _) ?_;rw[d2])
     go_round
     case rel=>exact⟨k+1,by omega,by go_num,HT⟩
     case measure=>simp[intOf];omega
    ·have d2:=ye.2 d2
     by_cases d3:97<=s[k].toNat
     ·by_cases d4:s[k].toNat<=122
      ·have HT:=(show Hid _ from(HB.out true (by rw[HI.out,d2];simp[d3,d4])).1 rfl)
       have e3:¬(s[k].toNat:Int)<97:=by omega
       have e4:¬(122:Int)<(s[k].toNat:Int):=by omega
       clear HB HI HN d1 d3 d4;go_wp2_with (go_at_call 102;refine cm (qde s[k] _) ?_;rw[d2])
       go_round
       case rel=>exact⟨k+1,by omega,by go_num,HT⟩
       case measure=>simp[intOf];omega
      ·have HT:=(show Hid _ from(HB.out false (by rw[HI.out,d2];have:decide (s[k].toNat<=122)=false:=yx d4;rw[this];simp[d1])).2 rfl)
       have e3:¬(s[k].toNat:Int)<97:=by omega
       have e4:(122:Int)<(s[k].toNat:Int):=by omega
       clear HB HI HN d1 d3 d4;go_wp2_with (go_at_call 102;refine cm (qde s[k] _) ?_;rw[d2])
       go_ret
       exact⟨qas (by rw[HV.out,HT.out]),rfl⟩
     ·have HT:=(show Hid _ from(HB.out false (by rw[HI.out,d2];have:decide (97<=s[k].toNat)=false:=yx d3;rw[this];simp[d1])).2 rfl)
      have e3:(s[k].toNat:Int)<97:=by omega
      clear HB HI HN d1 d3;go_wp2_with (go_at_call 102;refine cm (qde s[k] _) ?_;rw[d2])
      go_ret
      exact⟨qas (by rw[HV.out,HT.out]),rfl⟩
  ·have HT:=zH (Pl.zgl Pl.qc2 s k ha HN.out)
   clear HN;go_wp2
   go_ret
   exact⟨qas (by rw[HV.out,HT.out]),rfl⟩
theorem q1f(s:zT)(w:World) :
  zC 229 #[.string s] w (zQ (.bool (qeb s.data.toList)) w):=by
 have HV:Hid (qeb s.data.toList=(decide (s.size<=3) && !(among 61 s.data.toList))):=by
  show _=_;unfold qeb
  congr 2
 by_cases h3:s.size<=3
 ·have c3:(s.size:Int)<=3:=by omega
  by_cases ha:among 61 s.data.toList=true
  ·have HV:Hid (qeb s.data.toList=false):=by show _=_;rw[HV.out,ha];simp
   have HC:=zH (fun w=>qb7 61 s _ w rfl ha);clear ha;go_enter func229,ntmps229
   go_wp2_with (go_at_call 130;refine(HC.out _).mono ?_;rintro e w' ⟨x,hx,rfl,rfl⟩)
   go_ret
   refine⟨qas ?_,rfl⟩;rw[HV.out];simp;omega
  ·have ha:=ye.2 ha
   have HV:Hid (qeb s.data.toList=true):=by show _=_;rw[HV.out,ha];simp[h3]
   have HC:=zH (fun w=>qci 61 s _ w rfl ha);clear ha;go_enter func229,ntmps229
   go_wp2_with (go_at_call 130;refine cm (HC.out _) ?_)
   go_ret
   exact⟨qas HV.out.symm,rfl⟩
 ·have c3:¬(s.size:Int)<=3:=by omega
  have HV:Hid (qeb s.data.toList=false):=by show _=_;rw[HV.out];simp[h3]
  clear h3;go_enter func229,ntmps229
  go_wp2
  go_ret
  exact⟨qas HV.out.symm,rfl⟩
namespace Pl
theorem qfi:∀N:List zU,qhn N=true↔∀(i:Nat) (x:zU),N[i]?=some x->qa4 x=true/\∀j:Nat,j<i->N[j]?≠some x
 |[]=>by simp[qhn]
 |n::l=>by
   unfold qhn;simp only[yL,Bool.not_eq_true',qfi l];constructor
   ·rintro⟨h1,h2,h3⟩ i x hx
    cases i with
    |zero=>
      simp only[yS,Option.some.injEq]at hx;subst hx;exact⟨h1,fun j hj=>absurd hj (xb _)⟩
    |succ i=>
      simp only[yT]at hx;refine⟨(h3 i x hx).1,fun j hj=>?_⟩;cases j with
      |zero=>
        simp only[yS,ne_eq,Option.some.injEq];rintro rfl;have:l.contains n=true:=List.contains_iff_mem.2 (yl hx);rw[this]at h2;cases h2
      |succ j=>
        simp only[yT];exact(h3 i x hx).2 j (by omega)
   ·intro h
    refine⟨(h 0 n rfl).1,?_,fun i x hx=>⟨(h (i+1) x (by simpa using hx)).1,fun j hj=>?_⟩⟩
    ·rw[ye]
     intro q;obtain⟨i,hi⟩:=xo (List.contains_iff_mem.1 q);exact(h (i+1) n (by simpa using hi)).2 0 (by omega) rfl
    ·have:=(h (i+1) x (by simpa using hx)).2 (j+1) (by omega)
     simpa using this
end Pl
structure PsAt(w:World)(b:Nat)(L:List (zT×zT)):Prop where
 name:∀k x,L[k]?=some x->w.cell? (zO b (k*2))=some (.string x.1)
 text:∀k x,L[k]?=some x->w.cell? (zO b (k*2+1))=some (.string x.2)
structure PoAt(w:World)(b o:Nat)(L:List (zT×zT)):Prop where
 name:∀(k:Nat) (x:zT×zT),L[k]?=some x->w.cell? (zO b (o+k*2))=some (.string x.1)
 text:∀(k:Nat) (x:zT×zT),L[k]?=some x->w.cell? (zO b (o+k*2+1))=some (.string x.2)
def qbq(L:List (zT×zT)):List zU:=L.map fun x=>x.1.data.toList
theorem zdl{a b:zT}(h:a≠b):(a.toList==b.toList)=false:=by
 rw[yf,yW,yW];exact fun q=>h (xj (Array.toList_inj.1 q))
theorem q5k{L:List (zT×zT)}{k:Nat}{x:zU}(h:(qbq L)[k]?=some x):∃y,L[k]?=some y/\y.1.data.toList=x:=by
 unfold qbq at h;rw[yz]at h;obtain⟨y,h1,h2⟩:=yy.1 h;exact⟨y,h1,h2⟩
theorem qzh(ao:Option Addr)(cap:Nat)(w:World) :
  zC 43 #[.slice ao 0 cap] w (zQ (.bool true) w):=by
 go_enter func43,ntmps43
 go_wp2
 go_loop [10] (fun i=>i=zI 0) (fun _=>0)
 case atStart=>rfl
 case round=>
  obtain rfl:=hrel;go_wp2
  go_ret
  exact⟨rfl,rfl⟩
theorem qzi(ao:Option Addr)(n cap:Nat)(w:World)(hn:6<n) :
  zC 43 #[.slice ao n cap] w (zQ (.bool false) w):=by
 have c1:(6:Int)<(n:Int):=by omega
 clear hn;go_enter func43,ntmps43
 go_wp2
 go_ret
 exact⟨rfl,rfl⟩
theorem qzg(b o cap:Nat)(L:List (zT×zT))(w:World)(h:PoAt w b o L)(hn:L.length<=6) :
  zC 43 #[.slice (some (zO b o)) L.length cap] w fun e w'=>e=.returned (.bool (Pl.qhn (qbq L)))/\∃m,w'=w.drewN m:=by
 have HA:=(show Hid (PoAt w b o L)from h);have c1:¬(6:Int)<(L.length:Int):=by omega
 clear h;go_enter func43,ntmps43
 go_wp2
 clear c1;go_loopw [10] (fun i wr=>∃k:Nat,k<=L.length/\i=zI k/\Hid (∀i x,i<k->(qbq L)[i]?=some x->Pl.qa4 x=true/\∀j,j<i->(qbq L)[j]?≠some x)/\∃m,wr=w.drewN m) (fun i _=>L.length - (intOf i).toNat)
 case atStart=>exact⟨0,yH _,rfl,fun i x hi=>absurd hi (xb _),0,rfl⟩
 case round=>
  obtain⟨k,hk,rfl,HN,m,rfl⟩:=hrel;by_cases hb:k<L.length
  rotate_left
  ·have HT:Hid (Pl.qhn (qbq L)=true):=(Pl.qfi _).2 fun i x hx=>HN.out i x (by
    have:=(yb.1 hx).1;unfold qbq at this;simp at this;omega) hx
   clear HN HA;go_wp2
   go_ret
   exact⟨qas HT.out.symm,m,rfl⟩
  have hx:L[k]?=some L[k]:=yc hb;have HX:=(show Hid (L[k]?=some L[k])from hx);have q0:w.cell? (zO b (o+k*2))=some (.string L[k].1):=HA.out.name k _ hx;have Ha:(qbq L)[k]?=some L[k].1.data.toList:=by unfold qbq;simp[hx]
  have ha:=zH Ha;clear hx Ha;generalize L[k]=X at q0 HX ha;by_cases hi:Pl.qa4 X.1.data.toList=true
  rotate_left
  ·have hi:=ye.2 hi
   have HT:Hid (Pl.qhn (qbq L)=false):=by
    show _=_;rw[ye];intro q;have:=((Pl.qfi _).1 q k _ ha.out).1;rw[hi]at this;cases this
   clear HN HA HX ha;go_wp2_with (go_at_call 72;refine cm (qda X.1 _) ?_;rw[hi])
   go_ret
   exact⟨qas HT.out.symm,m,rfl⟩
  have HI:=zH hi;go_wp2_with (go_at_call 72;refine cm (qda X.1 _) ?_;rw[hi])
  clear hi q0;go_hide hQ
  have HQ:=zH hQ;clear hQ;go_loopw [21] (fun i wr=>∃j:Nat,j<=k/\i=zI j/\Hid (∀j',j'<j->(qbq L)[j']?≠some X.1.data.toList)/\Hid (∃m',wr=w.drewN m')) (fun i _=>k - (intOf i).toNat)
  case atStart=>exact⟨0,yH _,rfl,fun j' hj=>absurd hj (xb _),m,rfl⟩
  case round=>
   obtain⟨j,hj,rfl,HJ,HW⟩:=hrel;obtain⟨m',rfl⟩:=HW.out;clear HW;by_cases Hb:j<k
   ·have hc:j<L.length:=by omega
    have hy:L[j]?=some L[j]:=yc hc;have HY:=(show Hid (L[j]?=some L[j])from hy);have p0:w.cell? (zO b (o+j*2))=some (.string L[j].1):=HA.out.name j _ hy;have p1:w.cell? (zO b (o+k*2))=some (.string X.1):=HA.out.name k _ HX.out;clear hy;generalize L[j]=Y at p0 HY;have d1:(j:Int)<(L.length:Int):=by omega
    have d2:(k:Int)<(L.length:Int):=by omega
    by_cases e0:Y.1=X.1
    ·have HT:Hid (Pl.qhn (qbq L)=false):=by
      show _=_;rw[ye];intro q;refine((Pl.qfi _).1 q k _ ha.out).2 j Hb ?_;show(qbq L)[j]?=some X.1.data.toList;unfold qbq;rw[yz,HY.out,<-e0];rfl
     rw[e0]at p0;clear HN HA HX ha HJ HY e0;go_wp2
     go_quiet (fail)
     go_wp2
     rw[<-HQ.out];go_wp2
     go_ret
     exact⟨qas HT.out.symm,m'+nq,by rw[World.drewN_drewN]⟩
    ·have t0:=zdl e0
     have Hc:Hid (∀j',j'<j+1->(qbq L)[j']?≠some X.1.data.toList):=by
      intro j' hg;by_cases he:j'=j
      ·subst he
       intro q;obtain⟨y,h1,h2⟩:=q5k q;rw[HY.out]at h1;obtain rfl:=yk h1;exact e0 (xj (Array.toList_inj.1 h2))
      ·exact HJ.out j' (by omega)
     clear HN HX ha HJ HY e0;go_wp2
     go_quiet (fail)
     go_wp2
     go_roundw
     case rel=>exact⟨j+1,by omega,by go_num,Hc,⟨m'+nq,by simp[World.drewN]⟩⟩
     case measure=>simp[intOf];omega
   ·have He:j=k:=by omega
    subst He;have hf:Hid (∀i x,i<j+1->(qbq L)[i]?=some x->Pl.qa4 x=true/\∀j',j'<i->(qbq L)[j']?≠some x):=by
     intro i x Hg hx;by_cases Hf:i=j
     ·subst Hf
      rw[ha.out]at hx;obtain rfl:=yk hx;exact⟨HI.out,HJ.out⟩
     ·exact HN.out i x (by omega) hx
    clear HN HX ha HJ HA;go_wp2
    rw[<-HQ.out];go_wp2
    go_roundw
    case rel=>exact⟨j+1,by omega,by go_num,hf,m',rfl⟩
    case measure=>simp[intOf];omega
def qeh(o:Tg):Value:=.agg #[zI o.kind,zI o.slip,bs o.name,bs o.op,bs o.cl]
def qnd(o:Tg):Array Value:=#[zI o.kind,zI o.slip,bs o.name,bs o.op,bs o.cl]
theorem q6o(s:zT)(h:0<s.size):∃b l,s.data.toList=b::l/\b=s[0]:=by
 have:=quk s 0 h;exact⟨s[0],s.data.toList.drop 1,by simpa using this,rfl⟩
theorem qgs(s:zT)(w:World) :
  zC 193 #[.string s] w (zQ (zI (qay s.data.toList)) w):=by
 by_cases h0:s.size=0
 ·obtain rfl:s=⟨#[]⟩:=xj (Array.eq_empty_of_size_eq_zero h0)
  go_enter func193,ntmps193
  go_wp2
  go_ret
  exact⟨rfl,rfl⟩
 have c0:(s.toList.isEmpty)=false:=by
  rw[Lib.toList_data,List.isEmpty_eq_false_iff];intro q;apply h0;have:=yE List.length q;simpa using this
 obtain⟨b,l,hl,hb⟩:=q6o s (by omega);have c1:(0:Int)<(s.size:Int):=by omega
 have HV:Hid (qay s.data.toList=if s[0]=33 then 7 else if s[0]=61 then 8 else if s[0]=35 then 3 else if s[0]=94 then 4 else if s[0]=47 then 5 else if s[0]=62 then 6 else 2):=by
  show _=_;rw[hl];unfold qay;rw[hb]
 have ne:∀n:UInt8,s[0]≠n->∀z:Int,z=n.toNat->¬(s[0].toNat:Int)=z:=fun n ha z hz q=>ha (UInt8.toNat_inj.1 (by omega));clear hl hb h0;by_cases d1:s[0]=33
 ·have e1:(s[0].toNat:Int)=33:=by rw[d1];rfl
  have HT:Hid (qay s.data.toList=7):=by show _=_;rw[HV.out,d1];rfl
  clear HV d1 ne;go_enter func193,ntmps193
  go_wp2
  go_ret
  exact⟨qal (by rw[HT.out];rfl),rfl⟩
 have e1:=ne 33 d1 33 rfl;by_cases d2:s[0]=61
 ·have e2:(s[0].toNat:Int)=61:=by rw[d2];rfl
  have HT:Hid (qay s.data.toList=8):=by show _=_;rw[HV.out,d2];rfl
  clear HV d1 d2 ne;go_enter func193,ntmps193
  go_wp2
  go_ret
  exact⟨qal (by rw[HT.out];rfl),rfl⟩
 have e2:=ne 61 d2 61 rfl;by_cases d3:s[0]=35
 ·have e3:(s[0].toNat:Int)=35:=by rw[d3];rfl
  have HT:Hid (qay s.data.toList=3):=by show _=_;rw[HV.out,d3];rfl
  clear HV d1 d2 d3 ne;go_enter func193,ntmps193
  go_wp2
  go_ret
  exact⟨qal (by rw[HT.out];rfl),rfl⟩
 have e3:=ne 35 d3 35 rfl;by_cases d4:s[0]=94
 ·have e4:(s[0].toNat:Int)=94:=by rw[d4];rfl
  have HT:Hid (qay s.data.toList=4):=by show _=_;rw[HV.out,d4];rfl
  clear HV d1 d2 d3 d4 ne;go_enter func193,ntmps193
  go_wp2
  go_ret
  exact⟨qal (by rw[HT.out];rfl),rfl⟩
 have e4:=ne 94 d4 94 rfl;by_cases d5:s[0]=47
 ·have e5:(s[0].toNat:Int)=47:=by rw[d5];rfl
  have HT:Hid (qay s.data.toList=5):=by show _=_;rw[HV.out,d5];rfl
  clear HV d1 d2 d3 d4 d5 ne;go_enter func193,ntmps193
  go_wp2
  go_ret
  exact⟨qal (by rw[HT.out];rfl),rfl⟩
 have e5:=ne 47 d5 47 rfl;by_cases d6:s[0]=62
 ·have e6:(s[0].toNat:Int)=62:=by rw[d6];rfl
  have HT:Hid (qay s.data.toList=6):=by show _=_;rw[HV.out,d6];rfl
  clear HV d1 d2 d3 d4 d5 d6 ne;go_enter func193,ntmps193
  go_wp2
  go_ret
  exact⟨qal (by rw[HT.out];rfl),rfl⟩
 have e6:=ne 62 d6 62 rfl;have HT:Hid (qay s.data.toList=2):=by show _=_;rw[HV.out,if_neg d1,if_neg d2,if_neg d3,if_neg d4,if_neg d5,if_neg d6]
 clear HV d1 d2 d3 d4 d5 d6 ne;go_enter func193,ntmps193
 go_wp2
 go_ret
 exact⟨qal (by rw[HT.out];rfl),rfl⟩
def qa3(w:World):Prop:=∃m:Int,w.cell? (zO 11 0)=some (zI m)
theorem qa3.below{w w':World}(h:qa3 w)(hb:zW w w'):qa3 w':=by
 obtain⟨m,hm⟩:=h;exact⟨m,(xQ (hb.block _ (xP _ _ hm))).trans hm⟩
theorem qve(l:zU)(h:l≠[46]):isNm l=(decide ((Lib.split l [46]).length<=4) && (Lib.split l [46]).all qa4):=by
 unfold isNm;rw[yf.2 h];rfl
theorem q5v(s:zT)(w:World)(hs:s.size<=100000)(hm:qa3 w) :
  zC 230 #[.string s] w (zR (.bool (isNm s.data.toList)) w):=by
 obtain⟨m,hm⟩:=hm;by_cases h0:s.data.toList=[46]
 ·obtain rfl:s=⟨#[46]⟩:=xj (Array.toList_inj.1 h0)
  clear hm;go_enter func230,ntmps230
  go_wp2
  go_ret
  exact⟨rfl,xM _ _⟩
 have c0:(s.toList==[46])=false:=by rw[Lib.toList_data];exact yf.2 h0
 have HV:=zH (qve _ h0);have HS:=zH (strings_Split s ⟨#[46]⟩ m w (by omega) hm (by decide));have ha:(Lib.splitB ⟨#[46]⟩ 0 (Lib.countB s ⟨#[46]⟩) s).length=Lib.countB s ⟨#[46]⟩+1:=Lib.splitB_all ⟨#[46]⟩ (by decide) 0 _ s rfl;have Ha:(Lib.splitB ⟨#[46]⟩ 0 (Lib.countB s ⟨#[46]⟩) s).map (·.data.toList)=Lib.split s.data.toList [46]:=Lib.splitB_data ⟨#[46]⟩ 0 _ s;have hc:Lib.countB s ⟨#[46]⟩<=s.size:=Lib.countB_le ⟨#[46]⟩ (by decide) _ s (yg _);clear hm h0;generalize Lib.countB s ⟨#[46]⟩=c at HS ha Ha hc;generalize Lib.splitB ⟨#[46]⟩ 0 c s=L at HS ha Ha;have HC:Hid (∀(k:Nat) (x:zT),L[k]?=some x->(w.alloc (.cells (L.map Value.string).toArray 9)).cell? (zO w.heap.size k)=some (.string x)):=by
  intro k x hx;refine qaa (xG w _) k _ ?_;simp[hx]
 have HB:Hid (zW w (w.alloc (.cells (L.map Value.string).toArray 9))):=zB _;have Hb:(Lib.split s.data.toList [46]).length=c+1:=by rw[<-Ha];simpa using ha
 have HA:Hid ((Lib.split s.data.toList [46]).all qa4=L.all (fun x=>qa4 x.data.toList)):=by show _=_;rw[<-Ha,List.all_map];rfl
 rw[Hb]at HV;have HL:=zH ha;clear ha Ha Hb;by_cases h4:c+1<=4
 rotate_left
 ·have HT:Hid (isNm s.data.toList=false):=by show _=_;rw[HV.out,yx h4];rfl
  have c4:(4:Int)<((c+1:Nat):Int):=by omega
  clear HV HA HC h4 HL;go_enter func230,ntmps230
  go_wp2_with (go_at_call 242;refine xR HS.out ?_;rintro e w' ⟨rfl,rfl⟩)
  go_ret
  exact⟨qas HT.out.symm,HB.out⟩
 have HT:Hid (isNm s.data.toList=L.all (fun x=>qa4 x.data.toList)):=by show _=_;rw[HV.out,HA.out,yV h4];rfl
 have c4:¬(4:Int)<((c+1:Nat):Int):=by omega
 clear HV HA;go_enter func230,ntmps230
 go_wp2_with (go_at_call 242;refine xR HS.out ?_;rintro e w' ⟨rfl,rfl⟩)
 generalize w.alloc (.cells (L.map Value.string).toArray 9)=W at HC HB |-;clear HS c0;go_loopw [15] (fun i wr=>∃k:Nat,k<=c+1/\i=zI k/\Hid ((L.take k).all (fun x=>qa4 x.data.toList)=true)/\wr=W) (fun i _=>c+1 - (intOf i).toNat)
 case atStart=>exact⟨0,yH _,rfl,rfl,rfl⟩
 case round=>
  obtain⟨k,hk,rfl,HN,rfl⟩:=hrel;by_cases he:k<c+1
  ·have Hc:k<L.length:=by have:=HL.out;omega
   have hx:L[k]?=some L[k]:=yc Hc;have q0:=HC.out k _ hx;have HX:=zH hx;clear hx;generalize L[k]=X at q0 HX;by_cases hi:qa4 X.data.toList=true
   ·have hb:Hid ((L.take (k+1)).all (fun x=>qa4 x.data.toList)=true):=by
     show _=_;rw[List.take_add_one,HX.out,List.all_append,HN.out];simp[hi]
    clear HN HX;go_wp2_with (go_at_call 72;refine(qda X _).mono ?_;rintro e w' ⟨rfl,rfl⟩;rw[hi])
    go_roundw
    case rel=>exact⟨k+1,by omega,by go_num,hb,trivial⟩
    case measure=>simp[intOf];omega
   ·have hi:=ye.2 hi
    have hb:Hid (L.all (fun x=>qa4 x.data.toList)=false):=by
     show _=_;rw[List.all_eq_false];exact⟨X,yl HX.out,by rw[hi];decide⟩
    clear HN HX;go_wp2_with (go_at_call 72;refine(qda X _).mono ?_;rintro e w' ⟨rfl,rfl⟩;rw[hi])
    go_ret
    exact⟨qas (by rw[HT.out,hb.out]),HB.out⟩
  ·have hb:Hid (L.all (fun x=>qa4 x.data.toList)=true):=by
    show _=_;have h1:=HN.out;rw[yp (by have:=HL.out;omega)]at h1;exact h1
   clear HN;go_wp2
   go_ret
   exact⟨qas (by rw[HT.out,hb.out]),HB.out⟩
variable{f:Func}{a:Act}{w0 w:World}{p:Tmp}{g:Nat}
theorem qp1{r:Tg}(hf:f.results=#[.cell p 274])(hp:a.tmps.getD p undef=zP w0.heap.size)(hd:a.defers=[])(hw:w.heap[w0.heap.size]?=zK (qnd r) 274)(hb:zW w0 w) :
  bodyPost prog f (zR (qeh r) w0) .ret a w:=
 bodyPost_ret (qbn hf _ _ w0.heap.size _ _ hp (qaa hw) underlying274 rfl (by kernel_rfl)) hd ⟨rfl,hb⟩
theorem qx4{t:TypeId}{u0 u1 u2 u3 u4:Value}(h:w.heap[g]?=zK #[u0,u1,u2,u3,u4] t)(v0 v1 v2 v3 v4:Value) :
  (((((w.setCell (zO g 0) v0).setCell (zO g 1) v1).setCell (zO g 2) v2).setCell (zO g 3) v3).setCell (zO g 4) v4).heap[g]?=zK #[v0,v1,v2,v3,v4] t:=
 xH _ _ _ _ _ _ (xH _ _ _ _ _ _ (xH _ _ _ _ _ _ (xH _ _ _ _ _ _ (xH _ _ _ _ _ _ h))))
theorem qoc{B:Nat}{a:World}(h:Below B a w)(hg:B<=g)(v0 v1 v2 v3 v4:Value):Below B a (((((w.setCell (zO g 0) v0).setCell (zO g 1) v1).setCell (zO g 2) v2).setCell (zO g 3) v3).setCell (zO g 4) v4):=
 ((((h.setCell (p:=zO g 0) hg v0).setCell (p:=zO g 1) hg v1).setCell (p:=zO g 2) hg v2).setCell (p:=zO g 3) hg v3).setCell (p:=zO g 4) hg v4
structure TgSlot(w0 w:World):Prop where
 blk:w.heap[w0.heap.size]?=zK #[zI 0,zI 0,zS,zS,zS] 274
 below:zW w0 w
theorem qd4(w0:World):TgSlot w0 (w0.alloc (.cells #[zI 0,zI 0,zS,zS,zS] 274)):=⟨xG w0 _,zB _⟩
theorem TgSlot.next{w':World}(h:TgSlot w0 w)(hb:zW w w'):TgSlot w0 w':=
 ⟨(hb.block _ (zL h.blk)).trans h.blk,h.below.trans (hb.mono h.below.size)⟩
theorem TgSlot.facts(h:TgSlot w0 w):(w.cell? (zO w0.heap.size 0)=some (zI 0)/\w.cell? (zO w0.heap.size 1)=some (zI 0)/\w.cell? (zO w0.heap.size 2)=some (zS)/\w.cell? (zO w0.heap.size 3)=some (zS)/\w.cell? (zO w0.heap.size 4)=some (zS)) /\
  w.frozen? (zO w0.heap.size 0)=false/\w.frozen? (zO w0.heap.size 1)=false/\w.frozen? (zO w0.heap.size 2)=false/\w.frozen? (zO w0.heap.size 3)=false/\w.frozen? (zO w0.heap.size 4)=false:=by
 have c:=qaa h.blk;refine⟨⟨c 0 _ rfl,c 1 _ rfl,c 2 _ rfl,c 3 _ rfl,c 4 _ rfl⟩,?_⟩;simp[World.frozen?,h.blk]
theorem qgr(r:Tg)(hf:f.results=#[.cell p 274])(hp:a.tmps.getD p undef=zP w0.heap.size)(hd:a.defers=[])(hs:TgSlot w0 w){v0 v1 v2 v3 v4:Value}(hv:#[v0,v1,v2,v3,v4]=qnd r) :
  bodyPost prog f (zR (qeh r) w0) .ret a (((((w.setCell (zO w0.heap.size 0) v0).setCell (zO w0.heap.size 1) v1).setCell (zO w0.heap.size 2) v2).setCell (zO w0.heap.size 3) v3).setCell (zO w0.heap.size 4) v4):=
 qp1 (r:=r) hf hp hd (by rw[qx4 hs.blk,hv]) (qoc hs.below (yg _) _ _ _ _ _)
theorem qp2(k:Nat)(s:zT)(w:World)(hs:s.size<=100000)(hm:qa3 w) :
  zC 195 #[zI k,.string s] w (zR (qeh (qcc k s.data.toList)) w):=by
 have HB:=zH (fun o=>q5v s (w.alloc o) hs (hm.below (zB _)));clear hm;by_cases h6:k=6
 ·subst h6
  clear HB;by_cases hi:qa4 s.data.toList=true
  ·have HV:Hid (qcc 6 s.data.toList=⟨6,0,s.data.toList,[],[]⟩):=by show _=_;unfold qcc;simp[hi]
   rw[HV.out];clear HV;go_enter func195,ntmps195
   go_wp2_with (go_at_call 72;refine cm (qda s _) ?_;rw[hi])
   exact qp1 (r:=⟨6,0,s.data.toList,[],[]⟩) results195 rfl rfl (xG w _) (zB _)
  ·have hi:=ye.2 hi
   have HV:Hid (qcc 6 s.data.toList=⟨6,3,[],[],[]⟩):=by show _=_;unfold qcc;simp[hi]
   rw[HV.out];clear HV;go_enter func195,ntmps195
   go_wp2_with (go_at_call 72;refine cm (qda s _) ?_;rw[hi])
   exact qp1 (r:=⟨6,3,[],[],[]⟩) results195 rfl rfl (xG w _) (zB _)
 ·have c6:¬(k:Int)=6:=by omega
  by_cases hi:isNm s.data.toList=true
  ·have HV:Hid (qcc k s.data.toList=⟨k,0,s.data.toList,[],[]⟩):=by show _=_;unfold qcc;simp[hi,h6]
   rw[HV.out];clear HV;rw[hi]at HB;clear h6;go_enter func195,ntmps195
   go_wp2_with (go_at_call 230;refine xR (HB.out _) ?_;rintro e w' ⟨rfl,hb⟩;have hS:=(qd4 w).next hb;obtain⟨⟨k0,k1,k2,k3,k4⟩,f0,f1,f2,f3,f4⟩:=hS.facts;have HS:=zH hS;clear hb hS)
   exact qgr (w0:=w) ⟨k,0,s.data.toList,[],[]⟩ results195 rfl rfl HS.out rfl
  ·have hi:=ye.2 hi
   have HV:Hid (qcc k s.data.toList=⟨k,3,[],[],[]⟩):=by show _=_;unfold qcc;simp[hi,h6]
   rw[HV.out];clear HV;rw[hi]at HB;clear h6;go_enter func195,ntmps195
   go_wp2_with (go_at_call 230;refine xR (HB.out _) ?_;rintro e w' ⟨rfl,hb⟩;have hS:=(qd4 w).next hb;obtain⟨⟨k0,k1,k2,k3,k4⟩,f0,f1,f2,f3,f4⟩:=hS.facts;have HS:=zH hS;clear hb hS)
   exact qgr (w0:=w) ⟨k,3,[],[],[]⟩ results195 rfl rfl HS.out rfl
variable{B g:Nat}{w w':World}{v:Value}{f:Func}{a:Act}{p:Tmp}{cs:Array Value}
def qk4(B:Nat)(w:World)(v:Value)(xs:List Value):Prop:=∃ao cap,v=.slice ao xs.length cap/\xs.length<=maxLen/\(xs≠[]->∃k o,ao=some (zO k o)/\k<B/\∀j x,xs[j]?=some x->w.cell? (zO k (o+j))=some x)
theorem qk4.below{xs:List Value}(h:qk4 B w v xs)(hb:Below B w w'):qk4 B w' v xs:=by
 obtain⟨ao,cap,hv,hl,hx⟩:=h;refine⟨ao,cap,hv,hl,fun ha=>?_⟩;obtain⟨k,o,h1,h2,h3⟩:=hx ha;exact⟨k,o,h1,h2,fun j x hj=>(hb.cell (p:=zO k (o+j)) h2).trans (h3 j x hj)⟩
structure DtAt(B:Nat)(w:World)(b o k:Nat)(x:Dt):Prop where
 kind:w.cell? (zO b (o+k*5))=some (zI x.kind)
 n:w.cell? (zO b (o+k*5+1))=some (zI x.n)
 s:w.cell? (zO b (o+k*5+2))=some (bs x.s)
 rows:∃iv nv,w.cell? (zO b (o+k*5+3))=some iv/\w.cell? (zO b (o+k*5+4))=some nv/\qk4 B w iv (x.items.map (zI))/\qk4 B w nv (x.names.map bs)
theorem DtAt.below{b o k:Nat}{x:Dt}(h:DtAt B w b o k x)(hb:Below B w w')(ha:b<B):DtAt B w' b o k x:=by
 obtain⟨iv,nv,h1,h2,h3,h4⟩:=h.rows;exact⟨(hb.cell (p:=zO b (o+k*5)) ha).trans h.kind,(hb.cell (p:=zO b (o+k*5+1)) ha).trans h.n,(hb.cell (p:=zO b (o+k*5+2)) ha).trans h.s,iv,nv,(hb.cell (p:=zO b (o+k*5+3)) ha).trans h1,(hb.cell (p:=zO b (o+k*5+4)) ha).trans h2,h3.below hb,h4.below hb⟩
def DsAt(B:Nat)(w:World)(dv:Value)(D:List Dt):Prop:=∃ao cap,dv=.slice ao D.length cap/\D.length<=cap/\cap<=maxLen/\(D≠[]->∃b o,ao=some (zO b o)/\b<B/\∀k x,D[k]?=some x->DtAt B w b o k x)
theorem DsAt.below{dv:Value}{D:List Dt}(h:DsAt B w dv D)(hb:Below B w w'):DsAt B w' dv D:=by
 obtain⟨ao,cap,h1,h2,h3,h4⟩:=h;refine⟨ao,cap,h1,h2,h3,fun ha=>?_⟩;obtain⟨b,o,k1,k2,k3⟩:=h4 ha;exact⟨b,o,k1,k2,fun k x hk=>(k3 k x hk).below hb k2⟩
def qe0(dv:Value):Pc->Value
 |none=>.agg #[zN,zI 0]
 |some k=>.agg #[dv,zI k]
def qm9(B:Nat)(w:World)(d:Dt)(v:Value):Prop:=∃iv nv,v=.agg #[zI d.kind,zI d.n,bs d.s,iv,nv]/\qk4 B w iv (d.items.map (zI))/\qk4 B w nv (d.names.map bs)
theorem qmk(B:Nat)(w:World):qk4 B w (zN) []:=⟨none,0,rfl,yH _,fun h=>absurd rfl h⟩
theorem q6b(B:Nat)(w:World):qm9 B w Dt.null (.agg #[zI 0,zI 0,zS,zN,zN]):=⟨_,_,rfl,qmk B w,qmk B w⟩
theorem qcf(w:World)(o:Obj):(w.alloc o).heap.size=w.heap.size+1:=by unfold World.alloc;simp only[Array.size_push]
theorem q0t(w:World)(o o':Obj):((w.alloc o).alloc o').heap[w.heap.size+1]?=some o':=by
 have:=xG (w.alloc o) o';rw[qcf]at this;exact this
theorem qkn(w:World)(o o':Obj):zW w ((w.alloc o).alloc o'):=(zB _).alloc (by rw[qcf];omega) _
theorem q95{R:Ending->World->Prop}(hf:f.results=#[.cell p 67])(hp:a.tmps.getD p undef=zP g)(hd:a.defers=[])(hw:w.heap[g]?=zK cs 67)(hs:cs.size=5)(hR:R (.returned (.agg cs)) w) :
  bodyPost prog f R .ret a w:=
 bodyPost_ret (qbn hf _ _ g _ _ hp (qaa hw) underlying67 rfl (by rw[hs];kernel_rfl)) hd hR
theorem qtm(ao:Option Addr)(n cap:Nat)(k:Nat)(B:Nat)(w:World)(hk:n<=k) :
  zC 215 #[.agg #[.slice ao n cap,zI k]] w fun e w'=>(∃v,e=.returned v/\qm9 B w Dt.null v)/\zW w w':=by
 have h1:(n:Int)<=(k:Int):=by omega
 have HV:=zH (q6b B w);go_enter func215,ntmps215
 go_wp2
 exact q95 (g:=w.heap.size+1) results215 rfl rfl (q0t w _ _) rfl ⟨⟨_,rfl,HV.out⟩,qkn w _ _⟩
theorem zdf(b o n cap:Nat)(k:Nat)(B:Nat)(w:World)(d:Dt)(hk:k<n)(hB:B<=w.heap.size)(hb:b<B)(hd:DtAt B w b o k d) :
  zC 215 #[.agg #[.slice (some (zO b o)) n cap,zI k]] w fun e w'=>(∃v,e=.returned v/\qm9 B w d v)/\zW w w':=by
 have h1:¬(n:Int)<=(k:Int):=by omega
 have h2:(k:Int)<(n:Int):=by omega
 obtain⟨iv,nv,k3,k4,k5,k6⟩:=hd.rows;have HV:Hid (qm9 B w d (.agg #[zI d.kind,zI d.n,bs d.s,iv,nv])):=⟨iv,nv,rfl,k5,k6⟩;have ha:∀x x',zW w ((w.alloc x).alloc x'):=fun x x'=>qkn w x x';have c0:∀x x',((w.alloc x).alloc x').cell? (zO b (o+k*5))=some (zI d.kind):=fun x x'=>((ha x x').cell (p:=zO b (o+k*5)) (yi hb hB)).trans hd.kind;have c1:∀x x',((w.alloc x).alloc x').cell? (zO b (o+k*5+1))=some (zI d.n):=fun x x'=>((ha x x').cell (p:=zO b (o+k*5+1)) (yi hb hB)).trans hd.n;have c2:∀x x',((w.alloc x).alloc x').cell? (zO b (o+k*5+2))=some (bs d.s):=fun x x'=>((ha x x').cell (p:=zO b (o+k*5+2)) (yi hb hB)).trans hd.s;have c3:∀x x',((w.alloc x).alloc x').cell? (zO b (o+k*5+3))=some iv:=fun x x'=>((ha x x').cell (p:=zO b (o+k*5+3)) (yi hb hB)).trans k3;have c4:∀x x',((w.alloc x).alloc x').cell? (zO b (o+k*5+4))=some nv:=fun x x'=>((ha x x').cell (p:=zO b (o+k*5+4)) (yi hb hB)).trans k4;obtain⟨ia,icap,Ha,_⟩:=k5;obtain⟨na,ncap,Hb,_⟩:=k6;subst Ha;subst Hb;unfold bs at c2 HV;generalize (⟨d.s.toArray⟩:zT)=ds at c2 HV;generalize d.kind=dk at c0 HV;rw[yR]at c3 c4;simp only[yR]at HV;clear hd k3 k4 ha;go_enter func215,ntmps215
 go_wp2
 exact q95 (g:=w.heap.size+1) results215 rfl rfl (q0t w _ _) rfl ⟨⟨_,rfl,HV.out⟩,qkn w _ _⟩
theorem qm3(dv:Value)(D:List Dt)(p:Pc)(B:Nat)(w:World)(hB:B<=w.heap.size)(hD:DsAt B w dv D) :
  zC 215 #[qe0 dv p] w fun e w'=>(∃v,e=.returned v/\qm9 B w (qbe D p) v)/\zW w w':=by
 obtain⟨ao,cap,rfl,h1,h2,h3⟩:=hD;cases p with
 |none=>exact qtm none 0 0 0 B w (yg _)
 |some k=>
   by_cases hk:k<D.length
   ·have ha:D≠[]:=fun e=>by rw[e]at hk;exact absurd hk (xb _)
    obtain⟨b,o,rfl,hb,hx⟩:=h3 ha;have e:qbe D (some k)=D[k]:=by simp[qbe,List.getD,List.getElem?_eq_getElem hk]
    rw[e];exact zdf b o D.length cap k B w _ hk hB hb (hx k _ (yc hk))
   ·have e:qbe D (some k)=Dt.null:=by simp[qbe,List.getD,List.getElem?_eq_none (Nat.le_of_not_lt hk)]
    rw[e];exact qtm ao D.length cap k B w (Nat.le_of_not_lt hk)
theorem qlt{R:Ending->World->Prop}(hf:f.results=#[.cell p 147])(hp:a.tmps.getD p undef=zP g)(hd:a.defers=[])(hw:w.heap[g]?=zK cs 147)(hs:cs.size=2)(hR:R (.returned (.agg cs)) w) :
  bodyPost prog f R .ret a w:=
 bodyPost_ret (qbn hf _ _ g _ _ hp (qaa hw) underlying147 rfl (by rw[hs];kernel_rfl)) hd hR
theorem q27(ao:Option Addr)(n cap k:Nat)(i:Int)(w:World) :
  zC 219 #[.agg #[.slice ao n cap,zI k],zI i] w (zR (qe0 (.slice ao n cap) (qd2 k i)) w):=by
 by_cases h:i<=(k:Int)
 ·have e:qd2 k i=none:=by unfold qd2;rw[if_pos h]
  rw[e];go_enter func219,ntmps219
  go_wp2
  exact qlt (g:=w.heap.size+1) results219 rfl rfl (q0t w _ _) rfl ⟨rfl,qkn w _ _⟩
 ·have e:qd2 k i=some i.toNat:=by unfold qd2;rw[if_neg h]
  have e2:(i.toNat:Int)=i:=by omega
  have HV:Hid (qe0 (.slice ao n cap) (qd2 k i)=.agg #[.slice ao n cap,zI i]):=by
   show _=_;rw[e];show Value.agg #[.slice ao n cap,zI (i.toNat:Nat)]=_;rw[e2]
  rw[HV.out];clear e e2;go_enter func219,ntmps219
  go_wp2
  exact qlt (g:=w.heap.size+1) results219 rfl rfl (q0t w _ _) rfl ⟨rfl,qkn w _ _⟩
theorem qhi{d:Dt}(h:qm9 B w d v):∃ia icap na ncap,v=.agg #[zI d.kind,zI d.n,bs d.s,.slice ia d.items.length icap,.slice na d.names.length ncap]/\qk4 B w (.slice ia d.items.length icap) (d.items.map (zI))/\qk4 B w (.slice na d.names.length ncap) (d.names.map bs):=by
 obtain⟨iv,nv,rfl,h1,h2⟩:=h;have ha:=h1;have Ha:=h2;obtain⟨ia,icap,rfl,_⟩:=h1;obtain⟨na,ncap,rfl,_⟩:=h2;simp only[yR]at ha Ha |-;exact⟨ia,icap,na,ncap,rfl,ha,Ha⟩
theorem q85(pv:Value)(ao:Option Addr)(n cap k:Nat)(ha:pv=.agg #[.slice ao n cap,zI k])(d:Dt)(B:Nat)(w:World)
  (hD:∀o,zC 215 #[pv] (w.alloc o) fun e w'=>(∃v,e=.returned v/\qm9 B (w.alloc o) d v)/\Below (w.alloc o).heap.size (w.alloc o) w') :
  zC 177 #[pv] w (zR (.bool (qvb d)) w):=by
 subst ha;have HD:Hid (∀o,zC 215 #[.agg #[.slice ao n cap,zI k]] (w.alloc o) fun e w'=>(∃ia icap na ncap,e=.returned (.agg #[zI d.kind,zI d.n,bs d.s,.slice ia d.items.length icap,.slice na d.names.length ncap]))/\zW w w'):=fun o=>(hD o).mono (by
  rintro e w' ⟨⟨v,rfl,hv⟩,hb⟩;obtain⟨ia,icap,na,ncap,rfl,_,_⟩:=qhi hv;exact⟨⟨ia,icap,na,ncap,rfl⟩,(((xM w.heap.size w).alloc (yg _) o).trans (hb.mono (by rw[qcf];omega)))⟩)
 have HV:Hid (qvb d=if d.kind=1 then d.n==0 else if d.kind=3 then(⟨d.s.toArray⟩:zT).toList.isEmpty else if d.kind=4 then((d.items.length:Int)==0)else if d.kind=2\/d.kind=5 then false else true):=by
  show _=_;unfold qvb;have e1:(d.s==[])=(⟨d.s.toArray⟩:zT).toList.isEmpty:=by
   have h1:(⟨d.s.toArray⟩:zT).toList=d.s:=by simp[ByteArray.toList_eq]
   rw[h1];cases d.s<;>rfl
  have e2:(d.items.length==0)=((d.items.length:Int)==0):=by
   rw[xi,yF,yF];omega
  rw[e1,e2]
 clear hD;unfold bs at HD;generalize qvb d=R at HV |-;generalize d.kind=dk at HD HV;generalize d.n=dn at HD HV;generalize d.items.length=il at HD HV;generalize d.names.length=nl at HD;generalize (⟨d.s.toArray⟩:zT)=ds at HD HV;rcases(show dk=1\/dk=3\/dk=4\/dk=2\/dk=5\/(dk≠1/\dk≠3/\dk≠4/\dk≠2/\dk≠5) by omega)with rfl|rfl|rfl|rfl|rfl|⟨h1,h2,h3,h4,h5⟩
 all_goals
  go_enter func177,ntmps177
  go_wp2_with (go_at_call 215;refine xR (HD.out _) ?_;rintro e w' ⟨⟨ia,icap,na,ncap,rfl⟩,hb⟩)
  go_ret
  refine⟨qas ?_,hb.alloc hb.size _⟩;rw[HV.out]
  first|rfl|(simp;done)|(simp[*];done)|skip
theorem q8e(c n:Int)(h1:-9223372036854775808<=c)(h2:c<=9223372036854775807)(hn:0<n)(hm:n<=9223372036854775807)(w:World) :
  zC 20 #[zI c,zI n] w fun e w'=>(∃r:Nat,(r:Int)<n/\e=.returned (zI r))/\w=w':=by
 have hk:∀x:Int,0<=x->∃r:Nat,(r:Int)<n/\Int.tmod x n=r/\x % n=r:=fun x hx=>by
  have h4:=Int.emod_nonneg x (b:=n) (by omega);have h5:=Int.emod_lt_of_pos x (b:=n) (by omega);rw[Int.tmod_eq_emod_of_nonneg hx];exact⟨(x % n).toNat,by omega,by omega,by omega⟩
 have ha:¬n=0:=by omega
 by_cases hc:c<0
 ·obtain⟨r,hr,hq,_⟩:=hk (-(c+1)) (by omega)
  rw[Int.neg_tmod]at hq;go_enter func20,ntmps20
  go_wp2
  go_ret
  exact⟨⟨r,hr,rfl⟩,rfl⟩
 ·obtain⟨r,hr,_,hq⟩:=hk c (by omega)
  go_enter func20,ntmps20
  go_wp2
  go_ret
  exact⟨⟨r,hr,rfl⟩,rfl⟩
theorem zej(T:zT)(pv dv:Value)(depth room:Int)(w:World)(hd:-9223372036854775808<=depth/\depth<=9223372036854775807)(hr:-9223372036854775808<=room/\room<=9223372036854775807)
  (hp:∃ao n cap,pv=.slice ao n cap) (He:∃ao n cap,dv=.slice ao n cap)
  (HS:∀w1,zW w w1->zC 17 #[] w1 (zR (.bool true) w))
  (HW:∀w1,zW w w1->zC 18 #[.string T,pv] w1 fun ed w'=>(∃b,ed=.returned (.bool b))/\zW w w')
  (R:Addr->World->Prop) (HC:(∀w1,zW w w1->zC 12 #[.string T,pv] w1 fun ed w'=>(∃a b c d,ed=.returned (.tuple #[.pointer none,.agg #[zI a,zI b,.string c,zI d]]))/\zW w w') \/
   (∀w1,zW w w1->zC 12 #[.string T,pv] w1 fun ed w'=>(∃g a b c d,ed=.returned (.tuple #[.pointer (some g),.agg #[zI a,zI b,.string c,zI d]])/\∀o,R g (w'.alloc o))/\zW w w'))
  (out:Nat->Int->zT) (ln:Nat->Int->Nat) (er:Nat->Int->Int)
  (HR:∀g (d:Nat) (rm:Int) w1,(d:Int)<51->rm<=9223372036854775807->R g w1->zW w w1->zC 19 #[.pointer (some g),dv,zI d,zI rm] w1 fun ed w'=>(∃ao cap,ed=.returned (.tuple #[.string (out d rm),.slice ao (ln d rm) cap,zI (er d rm)])/\(er d rm≠0->ao=none))/\R g w'/\zW w w')
  (hcut:∀(d k:Nat),(d:Int)<51->((out d (-1)).size<=k->out d k=out d (-1)/\ln d k=ln d (-1)/\er d k=er d (-1))/\(k<(out d (-1)).size->er d k=6/\out d k=(out d (-1)).extract 0 k))
  (hc:∀d:Nat,(d:Int)<51->(out d (-1)).size<=140737488355328) :
  zC 8 #[.string T,pv,dv,zI depth,zI room] w (zR (.bool true) w):=by
 obtain⟨pa,pn,pc,rfl⟩:=hp;obtain⟨da,dn,dc,rfl⟩:=He;have HS:=zH HS;have HW:=zH HW;have HR:=zH HR;have HU:=zH hcut;have HZ:=zH hc;have HP:=zH (q8e depth 51 hd.1 hd.2 (by decide) (by decide));have HM:=zH (fun n=>q8e room n hr.1 hr.2);have HB:=zH (xM w.heap.size w);clear hcut hc hd hr;rcases HC with HC|HC<;>have HC:=zH HC
 ·go_enter func8,ntmps8
  go_wp2_with (first
   |(go_at_call 12;refine xR (HC.out _ HB.out) ?_;rintro ed w3 ⟨⟨fa,fb,fc,fd,rfl⟩,hb⟩;have HB:=zH hb;clear hb)
   |(go_at_call 18;refine xR (HW.out _ HB.out) ?_;rintro ed w2 ⟨⟨b,rfl⟩,hb⟩;have HB:=zH hb;clear hb)
   | (go_at_call 17;refine xR (HS.out _ HB.out) ?_;rintro ed w1 ⟨rfl,hb⟩;have HB:=zH hb;clear hb))
  all_goals
   go_ret
   first|exact⟨rfl,HB.out⟩|exact⟨rfl,HB.out.alloc HB.out.size _⟩
 go_enter func8,ntmps8
 go_wp2_with (first
  |(go_at_call 20;refine xR (HP.out _) ?_;rintro ed w5 ⟨⟨d,hd,rfl⟩,rfl⟩)
  |(go_at_call 12;refine xR (HC.out _ HB.out) ?_;rintro ed w3 ⟨⟨g,fa,fb,fc,fd,rfl,hG⟩,hb⟩;have HB:=zH (hb.alloc hb.size (.cells #[zI fa,zI fb,.string fc,zI fd] 31));have HG:=zH (hG (.cells #[zI fa,zI fb,.string fc,zI fd] 31));clear hb hG)
  |(go_at_call 18;refine xR (HW.out _ HB.out) ?_;rintro ed w2 ⟨⟨b,rfl⟩,hb⟩;have HB:=zH hb;clear hb)
  | (go_at_call 17;refine xR (HS.out _ HB.out) ?_;rintro ed w1 ⟨rfl,hb⟩;have HB:=zH hb;clear hb))
 ·go_ret
  exact⟨rfl,HB.out⟩
 have HR:=zH (fun rm h w1=>HR.out g d rm w1 hd h);have HU:=zH (fun k=>HU.out d k hd);have hz:=HZ.out d hd;generalize out d=out at HR HU hz;generalize ln d=ln at HR HU;generalize er d=er at HR HU;clear HZ HP HC HW HS;refine xR (HR.out _ (by omega) _ HG.out HB.out) ?_;rintro ed w4 ⟨⟨ao,cap,rfl,Hc⟩,hG,hb⟩;have HB:=zH hb;have HG:=zH hG;clear hb hG;have Hb:=zH (HR.out (-1) (by omega));obtain⟨S,hS⟩:∃S,out (-1)=S:=⟨_,rfl⟩;rw[hS]at hz HU Hb;simp only[hS];generalize er (-1)=E at Hb HU Hc;generalize ln (-1)=N at Hb HU;go_wp2_with (go_at_call 20;refine xR (HM.out _ (by omega) (by omega) _) ?_;rintro ed w5 ⟨⟨k,hk,rfl⟩,rfl⟩)
 have hf:Hid (∀w1,R g w1->zW w w1->zC 19 #[.pointer (some g),.slice da dn dc,zI d,zI (S.size:Nat)] w1 fun ed w'=>(∃ao cap,ed=.returned (.tuple #[.string S,.slice ao N cap,zI E])/\(E≠0->ao=none))/\R g w'/\zW w w'):=by
  have h1:=HR.out S.size (by omega);obtain⟨q1,q2,q3⟩:=(HU.out S.size).1 (yg _);rw[q1,q2,q3]at h1;exact h1
 have hu:=HU.out k;have Ha:=HR.out k (by omega) _ HG.out HB.out;generalize out k=X at hu Ha;generalize er k=F at hu Ha;generalize ln k=n at hu Ha;refine Ha.mono ?_;rintro ed w6 ⟨⟨ao2,cap2,rfl,ha⟩,hG,hb⟩;have HB:=zH hb;have HG:=zH hG;have he:S.extract 0 S.size=S:=by simp
 clear Ha hb hG HR HU Hc;rcases(show(k:Int)<S.size\/k=S.size/\E=0\/k=S.size/\E≠0 by omega)with h|⟨rfl,rfl⟩|⟨rfl,h⟩
 case' inl=>
  obtain⟨rfl,rfl⟩:=hu.2 (Int.ofNat_lt.1 h);obtain rfl:=ha (by decide)
 case' inr.inl=>obtain⟨rfl,rfl,rfl⟩:=hu.1 (yg _)
 case' inr.inr=>
  obtain⟨rfl,rfl,rfl⟩:=hu.1 (yg _);obtain rfl:=ha h
 all_goals
  clear hu ha;go_wp2_with fail
  refine xR (hf.out _ HG.out HB.out) ?_;rintro ed w7 ⟨⟨ao7,cap7,rfl,_⟩,hG,hb⟩;have HB:=zH hb;have HG:=zH hG;clear hb hG;go_wp2_with fail
  refine xR (Hb.out _ HG.out HB.out) ?_;rintro ed w8 ⟨⟨ao8,cap8,rfl,_⟩,hG,hb⟩;have HB:=zH hb;clear hb hG;go_wp2_with fail
  go_ret
  exact⟨rfl,HB.out⟩
variable{w:World}{g n:Nat}{p:Sp}
def qan(p:Sp):Array Value:=#[zI p.mode,zV p.tag,zV p.attr,zV p.inside,zV p.run,zI p.far]
def qaz(p:Sp):Value:=.agg (qan p)
structure SpAt(w:World)(g:Nat)(p:Sp):Prop where
 mode:w.cell? (zO g 0)=some (zI p.mode)
 tag:w.cell? (zO g 1)=some (zV p.tag)
 attr:w.cell? (zO g 2)=some (zV p.attr)
 inside:w.cell? (zO g 3)=some (zV p.inside)
 run:w.cell? (zO g 4)=some (zV p.run)
 far:w.cell? (zO g 5)=some (zI p.far)
theorem ze4{t:TypeId}{fz:Nat×Nat}(h:w.heap[g]?=some (.cells (qan p) t fz)):SpAt w g p:=
 ⟨qaa h 0 _ rfl,qaa h 1 _ rfl,qaa h 2 _ rfl,qaa h 3 _ rfl,qaa h 4 _ rfl,qaa h 5 _ rfl⟩
theorem qsn(w:World)(p:Sp)(t:TypeId):SpAt (w.alloc (.cells (qan p) t)) w.heap.size p:=ze4 (xG w _)
theorem SpAt.kept{w':World}{B:Nat}(h:SpAt w g p)(hb:Below B w w')(hB:g<B):SpAt w' g p:=
 ⟨(hb.cell (p:=zO g 0) hB).trans h.mode,(hb.cell (p:=zO g 1) hB).trans h.tag,(hb.cell (p:=zO g 2) hB).trans h.attr,(hb.cell (p:=zO g 3) hB).trans h.inside,(hb.cell (p:=zO g 4) hB).trans h.run,(hb.cell (p:=zO g 5) hB).trans h.far⟩
def qjo(l e:zU)(k i:Nat):Bool:=((l.drop k).take i).map small==e.take i
theorem q0k(l e:zU)(k i:Nat)(hl:k+i<l.length)(he:i<e.length):qjo l e k (i+1)=(qjo l e k i && small l[k+i]==e[i]):=by
 unfold qjo;rw[yB (by rw[yM];omega),yB he,yG,List.getElem_drop];rw[xi,yF,yL,yF,yF];constructor
 ·intro h
  have:=List.append_inj h (by rw[yR,yP,yP,yM];omega);exact⟨this.1,by simpa using this.2⟩
 ·rintro⟨h1,h2⟩
  rw[h1,<-h2];rfl
theorem zfb{l e:zU}(h:l.length<n+1):qbr l e (n+1)=qbr l e n:=by
 show(if qgb l e (n+1)=true then _ else _)=_;rw[if_neg];unfold qgb;simp;omega
theorem zg5{l e:zU}(h:n+1<=l.length)(hs:qjo l e (l.length - (n+1)) (n+1)=true):qbr l e (n+1)=n+1:=by
 show(if qgb l e (n+1)=true then _ else _)=_;rw[if_pos];unfold qgb;unfold qjo at hs;rw[yp (by rw[yM];omega)]at hs;rw[hs,yV h];rfl
theorem zfc{l e:zU}(h:n+1<=l.length)(hs:qjo l e (l.length - (n+1)) (n+1)=false):qbr l e (n+1)=qbr l e n:=by
 show(if qgb l e (n+1)=true then _ else _)=_;rw[if_neg];unfold qgb;unfold qjo at hs;rw[yp (by rw[yM];omega)]at hs;rw[hs,Bool.and_false];simp
theorem q2t(p:Sp)(w:World)(ht:p.tag.length<=1000)(hi:p.inside.length<=1000) :
  zC 66 #[qaz p] w (zR (zI (p.read:Nat)) w):=by
 have Hc:(ByteArray.mk p.tag.toArray).size=p.tag.length:=by simp[ByteArray.size]
 have Hb:(ByteArray.mk p.inside.toArray).size=p.inside.length:=by simp[ByteArray.size]
 have hE:(ByteArray.mk #[60,47]++ByteArray.mk p.tag.toArray)=⟨(qcr p.tag).toArray⟩:=by apply xj;simp[qcr]
 have he:(qcr p.tag).length<=1002:=by simp[qcr];omega
 have He:(ByteArray.mk (qcr p.tag).toArray).size=(qcr p.tag).length:=by simp[ByteArray.size]
 have HV:Hid (p.read=qbr p.inside (qcr p.tag) (qcr p.tag).length):=rfl;generalize p.read=R at HV |-;unfold qaz qan;have ha:=qsn w p 94;unfold qan at ha;go_enter func66,ntmps66
 go_wp2
 clear hE;generalize qcr p.tag=E at HV he He |-;have hq:=ha.inside;generalize p.inside=L at Hb hi HV hq |-;have hb:zW w (w.alloc (.cells #[zI p.mode,zV p.tag,zV p.attr,zV L,zV p.run,zI p.far] 94)):=zB _;generalize (w.alloc _)=W at hq hb |-;generalize hG:w.heap.size=G at hq |-;clear Hc ht ha;go_loopw [4] (fun i wr=>∃n:Nat,n<=E.length/\i=zI n/\Hid (R=qbr L E n)/\∃m,wr=W.drewN m) (fun i _=>(intOf i).toNat)
 case atStart=>exact⟨E.length,yg _,rfl,HV,0,rfl⟩
 case round=>
  obtain⟨n,hn,rfl,HN,m,rfl⟩:=hrel;clear HV
  match n,hn with
  |0,_=>
    go_wp2
    go_ret
    exact⟨qal (by rw[HN.out];rfl),qat hb _⟩
  |n+1,hn=>
    have c1:(0:Int)<(n:Int)+1:=by omega
    have cc:((n+1:Nat):Int)=(n:Int)+1:=by omega
    rw[cc];by_cases hf:L.length<n+1
    ·have d1:(L.length:Int) - ((n:Int)+1)<0:=by omega
     have d0:(n:Int)+1 - 1=(n:Int):=by omega
     go_wp2
     go_roundw
     case rel=>
      refine⟨n,by omega,rfl,?_,m,rfl⟩;show _=_;rw[HN.out,zfb hf]
     case measure=>simp[intOf]
    ·have d1:decide ((L.length:Int) - ((n:Int)+1)<0)=false:=by rw[yO];omega
     have d0:(n:Int)+1 - 1=(n:Int):=by omega
     go_wp2
     obtain⟨K,hK⟩:∃K,L.length=K+(n+1):=⟨L.length - (n+1),by omega⟩;have eK:(L.length:Int) - ((n:Int)+1)=(K:Int):=by omega
     have hc:L.length - (n+1)=K:=by omega
     rw[eK];clear d1 eK;have HK:=zH hK;clear hK;go_hide hQ
     have HQ:=zH hQ;clear hQ;go_loopw [6,7] (fun sm i wr=>∃i':Nat,i'<=n+1/\i=zI i'/\sm=.bool (qjo L E K i')/\Hid (∃m',wr=W.drewN m')) (fun _ i _=>n+1 - (intOf i).toNat)
     case atStart=>exact⟨0,yH _,rfl,by simp[qjo],⟨m,rfl⟩⟩
     case round=>
      obtain⟨i',hg,rfl,rfl,HW⟩:=hrel;have Hg:wr.cell? (zO G 3)=some (zV L):=by obtain⟨m',e⟩:=HW.out;rw[e];exact hq
      have Hf:zW w wr:=by obtain⟨m',e⟩:=HW.out;rw[e];exact qat hb _
      by_cases Hi:i'<n+1
      ·have Ha:(i':Int)<(n:Int)+1:=by omega
       have l1:K+i'<L.length:=by have:=HK.out;omega
       have l2:i'<E.length:=by omega
       have HS:=zH (q0k L E K i' l1 l2);by_cases hs:qjo L E K i'=true
       ·have b1:(K:Int)+(i':Int)<(L.length:Int):=by omega
        have b2:(0:Int)<=(K:Int)+(i':Int):=by omega
        have b3:((K:Int)+(i':Int)).toNat=K+i':=by omega
        have b4:(i':Int)<(E.length:Int):=by omega
        have b5:K+i'<=1000:=by omega
        have b6:i'<=1002:=by omega
        have bw:IntKind.i64.wrap ((K:Int)+(i':Int))=(K:Int)+(i':Int):=by rw[IntKind.wrap_i64];omega
        rw[hs];have HB:=zH hs;clear hs;go_wp2
        go_quiet ((go_at_call 101;refine qko (qg7 ((ByteArray.mk L.toArray)[K+i']'(by rw[Hb];exact l1)) _)))
        go_wp2
        go_roundw
        case rel=>exact⟨i'+1,by omega,by go_num,by rw[HS.out,HB.out,Bool.true_and];exact yE Value.bool (beq8 _ _),by obtain⟨m',e⟩:=HW.out;exact⟨m'+nq,by rw[e];simp[World.drewN,Nat.add_assoc]⟩⟩
        case measure=>simp[intOf];omega
       ·have hs:=ye.2 hs
        rw[hs];have HB:=zH hs;clear hs;go_wp2
        go_quiet (fail)
        go_wp2
        go_roundw
        case rel=>exact⟨i'+1,by omega,by go_num,by rw[HS.out,HB.out];rfl,by obtain⟨m',e⟩:=HW.out;exact⟨m'+nq,by rw[e];simp[World.drewN,Nat.add_assoc]⟩⟩
        case measure=>simp[intOf];omega
      ·have Ha:decide ((i':Int)<(n:Int)+1)=false:=by rw[yO];omega
       obtain rfl:i'=n+1:=by omega
       by_cases hs:qjo L E K (n+1)=true
       ·have HF:Hid (R=n+1):=by show _=_;rw[HN.out];exact zg5 (by have:=HK.out;omega) (by rw[hc];exact hs)
        rw[hs];clear hs;go_wp2
        rw[<-HQ.out];go_wp2
        go_ret
        exact⟨qal (by rw[HF.out];rfl),Hf⟩
       ·have hs:=ye.2 hs
        have HF:Hid (R=qbr L E n):=by show _=_;rw[HN.out];exact zfc (by have:=HK.out;omega) (by rw[hc];exact hs)
        rw[hs];clear hs;go_wp2
        rw[<-HQ.out];go_wp2
        go_roundw
        case rel=>exact⟨n,by omega,rfl,HF,HW.out⟩
        case measure=>simp[intOf]
theorem pre2(n:zU)(h:2<=n.length):(n.take 2==[111,110])=true↔[111,110] <+: n:=by
 rw[yF];constructor
 ·intro q
  rw[<-q];exact List.take_prefix _ _
 ·rintro⟨t,rfl⟩;rfl
theorem qvc{n:zU}(h:(n==[115,116,121,108,101])=true):qbt n=3:=by
 rw[yF]at h;unfold qbt;rw[if_pos (.inl h)]
theorem q5t{n:zU}(h:[111,110] <+: n):qbt n=3:=by unfold qbt;rw[if_pos (.inr h)]
theorem qdv{n:zU}(h:(n==[115,116,121,108,101])=false)(h':¬ [111,110] <+: n):qbt n=if n=[104,114,101,102]\/n=[115,114,99]\/n=[97,99,116,105,111,110]then 2 else 1:=by
 rw[yf]at h;unfold qbt;rw[if_neg (fun q=>q.elim h h')]
theorem zch(n:zU)(w:World)(hn:n.length<=1000) :
  zC 67 #[zV n] w (zQ (zI (qbt n)) w):=by
 have hz:(ByteArray.mk n.toArray).size=n.length:=by simp[ByteArray.size]
 by_cases h1:(n==[115,116,121,108,101])=true
 ·have HV:Hid (qbt n=3):=qvc h1
  go_enter func67,ntmps67
  go_wp2
  go_ret
  exact⟨qal (by rw[HV.out]),rfl⟩
 ·have h1:=ye.2 h1
  by_cases h2:1<n.length
  ·have ha:(1:Int)<(n.length:Int):=by omega
   have he:(ByteArray.mk n.toArray).extract 0 2=⟨(n.take 2).toArray⟩:=extract_take _ _;by_cases h3:(n.take 2==[111,110])=true
   ·have HV:Hid (qbt n=3):=q5t ((pre2 n (by omega)).1 h3)
    go_enter func67,ntmps67
    go_wp2
    go_ret
    exact⟨qal (by rw[HV.out]),rfl⟩
   ·have HP:=zH (fun q=>h3 ((pre2 n (by omega)).2 q))
    have h3:=ye.2 h3;by_cases a1:(n==[104,114,101,102])=true
    ·have HV:Hid (qbt n=2):=by show _=_;rw[qdv h1 HP.out,if_pos (.inl (yF.1 a1))]
     go_enter func67,ntmps67
     go_wp2
     go_ret
     exact⟨qal (by rw[HV.out]),rfl⟩
    ·have a1:=ye.2 a1
     by_cases a2:(n==[115,114,99])=true
     ·have HV:Hid (qbt n=2):=by show _=_;rw[qdv h1 HP.out,if_pos (.inr (.inl (yF.1 a2)))]
      go_enter func67,ntmps67
      go_wp2
      go_ret
      exact⟨qal (by rw[HV.out]),rfl⟩
     ·have a2:=ye.2 a2
      by_cases a3:(n==[97,99,116,105,111,110])=true
      ·have HV:Hid (qbt n=2):=by show _=_;rw[qdv h1 HP.out,if_pos (.inr (.inr (yF.1 a3)))]
       go_enter func67,ntmps67
       go_wp2
       go_ret
       exact⟨qal (by rw[HV.out]),rfl⟩
      ·have a3:=ye.2 a3
       have HV:Hid (qbt n=1):=by show _=_;rw[qdv h1 HP.out,if_neg (fun q=>q.elim (fun z=>by rw[yF.2 z]at a1;cases a1) (fun q=>q.elim (fun z=>by rw[yF.2 z]at a2;cases a2) (fun z=>by rw[yF.2 z]at a3;cases a3)))]
       go_enter func67,ntmps67
       go_wp2
       go_ret
       exact⟨qal (by rw[HV.out]),rfl⟩
  ·have ha:decide ((1:Int)<(n.length:Int))=false:=by rw[yO];omega
   have HP:Hid (¬ [111,110] <+: n):=by
    intro q;have:=q.length_le;simp at this;omega
   by_cases a1:(n==[104,114,101,102])=true
   ·have HV:Hid (qbt n=2):=by show _=_;rw[qdv h1 HP.out,if_pos (.inl (yF.1 a1))]
    go_enter func67,ntmps67
    go_wp2
    go_ret
    exact⟨qal (by rw[HV.out]),rfl⟩
   ·have a1:=ye.2 a1
    by_cases a2:(n==[115,114,99])=true
    ·have HV:Hid (qbt n=2):=by show _=_;rw[qdv h1 HP.out,if_pos (.inr (.inl (yF.1 a2)))]
     go_enter func67,ntmps67
     go_wp2
     go_ret
     exact⟨qal (by rw[HV.out]),rfl⟩
    ·have a2:=ye.2 a2
     by_cases a3:(n==[97,99,116,105,111,110])=true
     ·have HV:Hid (qbt n=2):=by show _=_;rw[qdv h1 HP.out,if_pos (.inr (.inr (yF.1 a3)))]
      go_enter func67,ntmps67
      go_wp2
      go_ret
      exact⟨qal (by rw[HV.out]),rfl⟩
     ·have a3:=ye.2 a3
      have HV:Hid (qbt n=1):=by show _=_;rw[qdv h1 HP.out,if_neg (fun q=>q.elim (fun z=>by rw[yF.2 z]at a1;cases a1) (fun q=>q.elim (fun z=>by rw[yF.2 z]at a2;cases a2) (fun z=>by rw[yF.2 z]at a3;cases a3)))]
      go_enter func67,ntmps67
      go_wp2
      go_ret
      exact⟨qal (by rw[HV.out]),rfl⟩
theorem q2v(l:zU)(b:UInt8):qhq (l++[b])=if b=37 then 2 else pct1 b l.reverse:=by
 unfold qhq;rw[List.reverse_append];rfl
theorem qtr(s:zT)(K:Nat)(h:s.size=K+1):s.data.toList=s.data.toList.take K++[s[K]'(by omega)]:=by
 rw[<-qdn s K (by omega),qeo s (K+1) (by omega)]
theorem qw5(w:World)(s:zT)(h:s.size=0) :
  zC 71 #[.string s] w (zQ (zI (qhq s.data.toList)) w):=by
 have HV:Hid (qhq s.data.toList=0):=by
  have:s.data.toList=[]:=yC (by simpa using h);show _=_;rw[this];rfl
 have h1:(s.size:Int)=0:=by omega
 go_enter func71,ntmps71
 go_wp2
 go_ret
 exact⟨qal (by rw[HV.out]),rfl⟩
theorem q01(w:World)(s:zT)(h:s.size=1) :
  zC 71 #[.string s] w (zQ (zI (qhq s.data.toList)) w):=by
 have HV:Hid (qhq s.data.toList=if s[0]=37 then 2 else 0):=by
  have:=qtr s 0 (by omega);show _=_;rw[this,q2v];simp[pct1]
 have h1:(s.size:Int)=1:=by omega
 by_cases hb:s[0]=37
 ·have ha:((s[0].toNat:Int)==37)=true:=by rw[hb];rfl
  rw[if_pos hb]at HV;clear hb;go_enter func71,ntmps71
  go_wp2
  go_ret
  exact⟨qal (by rw[HV.out]),rfl⟩
 ·have ha:((s[0].toNat:Int)==37)=false:=(qil s[0] 37 (by omega)).trans (yf.2 hb)
  rw[if_neg hb]at HV;clear hb;go_enter func71,ntmps71
  go_wp2
  go_ret
  exact⟨qal (by rw[HV.out]),rfl⟩
theorem qw6(w:World)(s:zT)(K:Nat)(h:s.size=K+2)(hs:s.size<=4000000000000000000) :
  zC 71 #[.string s] w (zQ (zI (qhq s.data.toList)) w):=by
 have HV:Hid (qhq s.data.toList=if s[K+1]=37 then 2 else if s[K]=37/\among s[K+1] qa1=true then 1 else 0):=by
  have a:=qtr s (K+1) (by omega);have b:=qdn s K (by omega);show _=_;rw[a,q2v,b,List.reverse_append];rfl
 have d1:(s.size:Int) - 1=((K+1:Nat):Int):=by omega
 have d2:(s.size:Int) - 2=(K:Int):=by omega
 have p0:(0:Int)<(s.size:Int):=by omega
 have p1:(1:Int)<(s.size:Int):=by omega
 have Hb:K+1<s.size:=by omega
 have hk:K<s.size:=by omega
 have Hc:K+1<=4000000000000000000:=by omega
 by_cases hb:s[K+1]=37
 ·have ha:((s[K+1].toNat:Int)==37)=true:=by rw[hb];rfl
  rw[if_pos hb]at HV;clear hb;go_enter func71,ntmps71
  go_wp2
  go_ret
  exact⟨qal (by rw[HV.out]),rfl⟩
 ·have ha:((s[K+1].toNat:Int)==37)=false:=(qil s[K+1] 37 (by omega)).trans (yf.2 hb)
  rw[if_neg hb]at HV;clear hb;by_cases hc:s[K]=37
  ·have Ha:((s[K].toNat:Int)==37)=true:=by rw[hc];rfl
   cases hx:among s[K+1] qa1
   ·rw[hx,if_neg (by simp)]at HV
    clear hc;go_enter func71,ntmps71
    go_wp2_with (go_at_call 80;refine cm (qed s[K+1] _ qa1 _ rfl (by decide)) ?_;rw[hx])
    go_ret
    exact⟨qal (by rw[HV.out]),rfl⟩
   ·rw[hx,if_pos ⟨hc,rfl⟩]at HV
    clear hc;go_enter func71,ntmps71
    go_wp2_with (go_at_call 80;refine cm (qed s[K+1] _ qa1 _ rfl (by decide)) ?_;rw[hx])
    go_ret
    exact⟨qal (by rw[HV.out]),rfl⟩
  ·have Ha:((s[K].toNat:Int)==37)=false:=(qil s[K] 37 (by omega)).trans (yf.2 hc)
   rw[if_neg (fun q=>hc q.1)]at HV;clear hc;go_enter func71,ntmps71
   go_wp2
   go_ret
   exact⟨qal (by rw[HV.out]),rfl⟩
theorem q02(s:zT)(w:World)(hs:s.size<=4000000000000000000) :
  zC 71 #[.string s] w (zQ (zI (qhq s.data.toList)) w):=by
 by_cases h0:s.size=0
 ·exact qw5 w s h0
 by_cases h1:s.size=1
 ·exact q01 w s h1
 ·exact qw6 w s (s.size - 2) (by omega) hs
def msW(w:World)(x:Sx)(b:UInt8):World:=if b=58 then(w.alloc (.cells (qaf x) 162)).alloc (.cells (qaf x) 162)else w.alloc (.cells (qaf x) 162)
theorem qjx(x:Sx)(b:UInt8)(w:World) :
  zC 106 #[qar x,zJ b.toNat] w fun e w'=>e=.returned (.bool (qcd x.st.kind x.st.mode x.ma.far b))/\msW w x b=w':=by
 unfold qcd;by_cases hb:b=58
 ·subst hb
  have hI:=fun w=>qkt x w;have hm:msW w x 58=(w.alloc (.cells (qaf x) 162)).alloc (.cells (qaf x) 162):=if_pos rfl;rw[hm];by_cases h1:qb4 x.st.kind x.st.mode=true
  ·rw[h1]at hI |-
   unfold qar qaf bs at hI |-;have HI:=zH hI;clear hI h1 hm;go_enter func106,ntmps106
   go_wp2_with (go_at_call 153;refine(HI.out _).mono ?_;rintro e w' ⟨rfl,rfl⟩)
   go_ret
   exact⟨rfl,rfl⟩
  ·have h1:=ye.2 h1
   rw[h1]at hI |-;unfold qar qaf bs at hI |-;have HI:=zH hI;clear hI h1 hm;go_enter func106,ntmps106
   go_wp2_with (go_at_call 153;refine(HI.out _).mono ?_;rintro e w' ⟨rfl,rfl⟩)
   go_ret
   exact⟨rfl,rfl⟩
 ·have hm:msW w x b=w.alloc (.cells (qaf x) 162):=if_neg hb
  have ha:(b==58)=false:=by rw[yf];exact hb
  have Ha:((b.toNat:Int)==58)=false:=(qil b 58 (by omega)).trans ha;rw[hm,ha,Bool.false_and];unfold qar qaf bs;clear hm hb ha;go_enter func106,ntmps106
  go_wp2
  go_ret
  exact⟨rfl,rfl⟩
theorem qyn(b:UInt8)(w:World)(h:among b qhz=true) :
  zC 130 #[.string ⟨#[47,63,35,58]⟩,zJ b.toNat] w fun e w'=>∃x:Int,0<=x/\e=.returned (zI x)/\w=w':=
 qb7 b _ qhz w rfl h
theorem qre(b:UInt8)(w:World)(h:among b qhz=false) :
  zC 130 #[.string ⟨#[47,63,35,58]⟩,zJ b.toNat] w (zQ (zI (-1)) w):=
 qci b _ qhz w rfl h
theorem qqs(w:World)(x:Sx)(b:UInt8):zW w (msW w x b):=by
 unfold msW;split
 ·exact(zB _).alloc (by simp) _
 ·exact zB _
theorem q1r(x:Sx)(b:UInt8)(w:World) :
  zC 184 #[qar x,zJ b.toNat] w (zR (zI (qdt x.st.kind x.st.mode x.ma.far b)) w):=by
 have hI:=fun w=>qjx x b w;have ha:=fun w=>qqs w x b;have hw:zW w (msW (w.alloc (.cells (qaf x) 162)) x b):=(zB _).trans ((ha _).mono (by simp));have Ha:SxAt (msW (w.alloc (.cells (qaf x) 162)) x b) w.heap.size x:=(qkk w x _).kept (ha _) (by simp);have q9:=Ha.far;clear Ha ha;unfold qdt;by_cases h1:qcd x.st.kind x.st.mode x.ma.far b=true
 ·rw[if_pos h1]
  rw[h1]at hI;generalize hW:msW (w.alloc (.cells (qaf x) 162)) x b=W at hw q9;have hI:=hI (w.alloc (.cells (qaf x) 162));rw[hW]at hI;unfold qar qaf bs at hI |-;have HI:=zH hI;clear hI h1 hW;go_enter func184,ntmps184
  go_wp2_with (go_at_call 106;refine(xR HI.out) ?_;rintro e w' ⟨rfl,rfl⟩)
  go_ret
  exact⟨rfl,hw⟩
 ·rw[if_neg h1]
  rw[ye.2 h1]at hI;generalize hW:msW (w.alloc (.cells (qaf x) 162)) x b=W at hw q9;have hI:=hI (w.alloc (.cells (qaf x) 162));rw[hW]at hI;unfold qar qaf bs at hI |-;have HI:=zH hI;clear hI h1 hW;by_cases h2:among b qhz=true
  ·rw[if_pos h2]
   go_enter func184,ntmps184
   go_wp2_with (first|(go_at_call 106;refine(xR HI.out) ?_;rintro e w' ⟨rfl,rfl⟩)|(go_at_call 130;refine(qyn b _ h2).mono ?_;rintro e w' ⟨x',Hb,rfl,rfl⟩))
   go_ret
   exact⟨rfl,hw⟩
  ·rw[if_neg h2]
   have h2:=ye.2 h2;by_cases h3:x.ma.far=0
   ·rw[if_pos h3]
    have hb:(x.ma.far==0)=true:=by rw[h3];rfl
    clear h3;go_enter func184,ntmps184
    go_wp2_with (first|(go_at_call 106;refine(xR HI.out) ?_;rintro e w' ⟨rfl,rfl⟩)|(go_at_call 130;refine(qre b _ h2).mono ?_;rintro e w' ⟨rfl,rfl⟩))
    go_ret
    exact⟨rfl,hw⟩
   ·rw[if_neg h3]
    have hb:(x.ma.far==0)=false:=by rw[yf];exact h3
    clear h3;go_enter func184,ntmps184
    go_wp2_with (first|(go_at_call 106;refine(xR HI.out) ?_;rintro e w' ⟨rfl,rfl⟩)|(go_at_call 130;refine(qre b _ h2).mono ?_;rintro e w' ⟨rfl,rfl⟩))
    go_ret
    exact⟨rfl,hw⟩
structure Sp3(w0 w:World)(g:Nat)(p q:Sp):Prop where
 sp:w.heap[w0.heap.size]?=zK (qan p) 94
 res:w.heap[w0.heap.size+1]?=zK (qan ⟨0,[],[],[],[],0⟩) 94
 tt:w.heap[g]?=zK (qan q) 94
 low:zW w0 w
 gt:w0.heap.size+1<g
section
variable {w0 w w':World}{g:Nat}{p q q':Sp}{t:TypeId}{fz:Nat×Nat}{u0 u1 u2 u3 u4 u5:Value}
theorem Sp3.lt(h:Sp3 w0 w g p q):g<w.heap.size:=(ya.1 h.tt).1
theorem Sp3.kept(h:Sp3 w0 w g p q)(hb:zW w w'):Sp3 w0 w' g p q:=by
 have:=h.lt;have:=h.gt;exact⟨(hb.block _ (by omega)).trans h.sp,(hb.block _ (by omega)).trans h.res,(hb.block _ (by omega)).trans h.tt,h.low.trans (hb.mono (by omega)),h.gt⟩
theorem Sp3.alloc(h:Sp3 w0 w g p q)(o:Obj):Sp3 w0 (w.alloc o) g p q:=h.kept ((xM _ w).alloc (yg _) o)
theorem Sp3.drew(h:Sp3 w0 w g p q):Sp3 w0 w.drew g p q:=⟨h.sp,h.res,h.tt,h.low.drew,h.gt⟩
theorem Sp3.put(h:Sp3 w0 w g p q)(j:Nat)(v:Value)(e:(qan q).set! j v=qan q'):Sp3 w0 (w.setCell (zO g j) v) g p q':=by
 have:=h.gt;refine⟨(xK _ _ _ _ (by show w0.heap.size≠g;omega)).trans h.sp,(xK _ _ _ _ (by show w0.heap.size+1≠g;omega)).trans h.res,?_,h.low.setCell (by show w0.heap.size<=g;omega) _,h.gt⟩;rw[<-e];exact xH w g j _ _ _ h.tt
theorem Sp3.start(w0:World)(p q:Sp):Sp3 w0 (((w0.alloc (.cells (qan p) 94)).alloc (.cells (qan ⟨0,[],[],[],[],0⟩) 94)).alloc (.cells (qan q) 94)) (w0.heap.size+1+1) p q:=
 ⟨(xJ _ _ (by simp;omega)).trans ((xJ _ _ (by simp)).trans (xG w0 _)),(xJ _ _ (by simp)).trans (qap _ _ _ (by simp)),qap _ _ _ (by simp),((zB _).alloc (by simp) _).alloc (by simp;omega) _,by omega⟩
end
structure Sp2(w0 w:World)(p:Sp):Prop where
 sp:w.heap[w0.heap.size]?=zK (qan p) 94
 res:w.heap[w0.heap.size+1]?=zK (qan ⟨0,[],[],[],[],0⟩) 94
 low:zW w0 w
section
variable {w0 w w':World}{p q:Sp}
theorem Sp2.lt(h:Sp2 w0 w p):w0.heap.size+1<w.heap.size:=(zL h.res)
theorem Sp2.kept(h:Sp2 w0 w p)(hb:zW w w'):Sp2 w0 w' p:=by
 have:=h.lt;exact⟨(hb.block _ (by omega)).trans h.sp,(hb.block _ (by omega)).trans h.res,h.low.trans (hb.mono (by omega))⟩
theorem Sp2.put(h:Sp2 w0 w p)(j:Nat)(v:Value)(e:(qan p).set! j v=qan q):Sp2 w0 (w.setCell (zO w0.heap.size j) v) q:=by
 refine⟨?_,(xK _ _ _ _ (by show w0.heap.size+1≠w0.heap.size;omega)).trans h.res,h.low.setCell (yg _) _⟩;rw[<-e];exact xH w _ j _ _ _ h.sp
theorem Sp2.start(w0:World)(p:Sp):Sp2 w0 ((w0.alloc (.cells (qan p) 94)).alloc (.cells (qan ⟨0,[],[],[],[],0⟩) 94)) p:=
 ⟨(xJ _ _ (by simp)).trans (xG w0 _),qap _ _ _ (by simp),(zB _).alloc (by simp) _⟩
theorem Sp2.more(h:Sp2 w0 w p)(q:Sp):Sp3 w0 (w.alloc (.cells (qan q) 94)) w.heap.size p q:=by
 have:=h.lt;exact⟨(xJ _ _ (by omega)).trans h.sp,(xJ _ _ (by omega)).trans h.res,xG _ _,h.low.alloc (by omega) _,by omega⟩
end
theorem qln(w:World) :
  zC 34 #[] w fun e w'=>e=.returned (.agg #[zI 1,zS,zS,zS,zS,zI 0])/\w.alloc (.cells #[zI 1,zS,zS,zS,zS,zI 0] 94)=w':=by
 go_enter func34,ntmps34
 go_wp2
 refine qb8 results34 w.heap.size _ _ underlying94 rfl rfl (xG _ _) (by kernel_rfl) rfl ?_;exact⟨rfl,rfl⟩
theorem q26(m:Int)(l:zU)(x:UInt8)(w:World)(hl:l.length<=2000000000000000000) :
  zC 169 #[zI m,.string (ByteArray.mk l.toArray++ByteArray.mk #[x])] w (zQ (zV (kept m (l++[x]))) w):=by
 have h:=zck m (ByteArray.mk l.toArray++ByteArray.mk #[x]) w (by rw[ByteArray.size_append];simp[ByteArray.size];omega);rw[show(ByteArray.mk l.toArray++ByteArray.mk #[x]).data.toList=l++[x] by simp]at h;exact h
theorem zbi(l:zU)(x:UInt8)(w:World)(hl:l.length<=2000000000000000000) :
  zC 168 #[.string (ByteArray.mk l.toArray++ByteArray.mk #[x])] w (zQ (zV (qce (l++[x]))) w):=by
 have h:=zbj (ByteArray.mk l.toArray++ByteArray.mk #[x]) w (by rw[ByteArray.size_append];simp[ByteArray.size];omega);rw[show(ByteArray.mk l.toArray++ByteArray.mk #[x]).data.toList=l++[x] by simp]at h;exact h
theorem qi0(x:UInt8)(w:World)(g:Nat)(hg:w.heap.size=g):(convert 82 9 (zF g 1 1)).run prog (w.alloc (.cells #[zJ x.toNat] 5))=.ok (.string ⟨#[x]⟩) (w.alloc (.cells #[zJ x.toNat] 5)):=by
 subst hg;refine run_convert_bytes_back _ 82 9 5 (zO w.heap.size 0) 1 [x] underlying82 underlying5 underlying9 ?_;intro j hj
 match j,hj with
 |0,_=>simp[Addr.add]
theorem q2z(x:UInt8)(w:World)(g:Nat)(hg:w.heap.size=g):(convert 82 9 (zF g 1 1)).run prog (w.alloc (.cells #[zJ x.toNat] 5)).drew=.ok (.string ⟨#[x]⟩) (w.alloc (.cells #[zJ x.toNat] 5)).drew:=by
 subst hg;refine run_convert_bytes_back _ 82 9 5 (zO w.heap.size 0) 1 [x] underlying82 underlying5 underlying9 ?_;intro j hj
 match j,hj with
 |0,_=>simp[Addr.add]
theorem qx8(l:zU)(x:UInt8)(w:World)(hl:l.length<=1000) :
  zC 212 #[.string (ByteArray.mk l.toArray++ByteArray.mk #[x])] w (zQ (zV (qfx (l++[x]))) w):=by
 have h:=q6d (ByteArray.mk l.toArray++ByteArray.mk #[x]) w (by rw[ByteArray.size_append];simp[ByteArray.size];omega);rw[show(ByteArray.mk l.toArray++ByteArray.mk #[x]).data.toList=l++[x] by simp]at h;exact h
theorem qt2.kept{v:Value}{w w':World}{l:List (zU×Int)}(h:qt2 v w l)(hb:zW w w'):qt2 v w' l:=by
 rcases h with h|⟨g,hv,hc⟩
 ·exact .inl h
 ·refine .inr ⟨g,hv,fun k r hk=>?_⟩
  obtain⟨a,b⟩:=hc k r hk;have hg:g<w.heap.size:=by
   rcases Nat.lt_or_ge g w.heap.size with h'|h'
   ·exact h'
   ·simp[World.cell?,Array.getElem?_eq_none h']at a
  exact⟨(hb.cell (p:=zO g (k*2)) hg).trans a,(hb.cell (p:=zO g (k*2+1)) hg).trans b⟩
theorem zbd{m k:Nat}{b:UInt8}{r:zU×Int}(hr:(qfn m)[k]?=some r)(hn:((qfn m).take k).find? (qla b)=none)(h:qla b r=true):tgt m b=r.2:=by
 unfold tgt;rw[qo9 _ k r hr hn h]
theorem zbc{m k:Nat}{b:UInt8}(hk:(qfn m).length<=k)(hn:((qfn m).take k).find? (qla b)=none):tgt m b=m:=by
 rw[yp hk]at hn;unfold tgt;rw[hn]
theorem q4x:∀m,m<=33->(qfn m).length<=5/\∀r∈qfn m,r.1.length<=60:=by decide +kernel
theorem q4d(m:Nat)(b:UInt8)(w:World)(hm:m<=33) :
  zC 170 #[zI m,zJ b.toNat] w (zR (zI (tgt m b)) w):=by
 have Ha:=q4x m hm;have HT:=zH (fun(k:Nat) (r:zU×Int)=>@zbd m k b r);have hb:=zH (fun(k:Nat)=>@zbc m k b);generalize tgt m b=T at HT hb |-;go_enter func170,ntmps170
 go_wp2_with fail
 by_cases Hb:20<=m
 case' pos=>
  have hi:(20:Int)<=(m:Int):=by omega
  have He:qfn m=qmv m:=by unfold qfn;rw[if_pos Hb]
  refine(qok m hm _).mono ?_;rintro e w1 ⟨v0,rfl,_,hf⟩;go_wp2_with fail
  refine(qvg m Hb hm _).mono ?_;rintro e w2 ⟨v,rfl,hv,hg⟩;have hw:=hf.trans (hg.mono hf.size);clear hf hg hi
 case' neg=>
  have hi:decide ((20:Int)<=(m:Int))=false:=by rw[yO];omega
  have He:qfn m=qkq m:=by unfold qfn;rw[if_neg Hb]
  refine(qok m hm _).mono ?_;rintro e w1 ⟨v,rfl,hv,hw⟩
 all_goals
  rw[<-He]at hv;clear He Hb;generalize qfn m=L at hv Ha HT hb;have hL:=Ha.1;have HL:=zH Ha.2;clear Ha;rcases hv with⟨rfl,rfl⟩|⟨g,rfl,hc⟩
  ·have HF:Hid (T=m):=hb.out 0 (yg _) rfl
   go_wp2_with fail
   go_loop [6] (fun i=>i=zI 0) (fun _=>0)
   case atStart=>rfl
   case round=>
    subst hrel;go_wp2
    go_ret
    exact⟨qal (by rw[HF.out]),hw⟩
  ·have HC:=zH hc
   clear hc;go_wp2_with fail
   go_loop [6] (fun i=>∃k:Nat,k<=L.length/\i=zI k/\(L.take k).find? (qla b)=none) (fun i=>L.length - (intOf i).toNat)
   case atStart=>exact⟨0,yH _,rfl,rfl⟩
   case round=>
    obtain⟨k,hk,rfl,hn⟩:=hrel;have HN:=zH hn;clear hn;by_cases Hg:k<L.length
    ·have Hf:(k:Int)<(L.length:Int):=by omega
     obtain⟨r,hr⟩:∃r,L[k]?=some r:=⟨_,yc Hg⟩;obtain⟨q0,q1⟩:=HC.out k r hr;have Hi:=HL.out r (yl hr);have HR:=zH hr;clear hr;by_cases he:r.1=[]
     ·have Hc:(r.1==[])=true:=by rw[he];rfl
      have HV:Hid (T=r.2):=HT.out k r HR.out HN.out (by unfold qla;rw[Hc];rfl);clear Hc;rw[he]at q0;go_wp2_with fail
      go_ret
      exact⟨qal (by rw[HV.out]),hw⟩
     ·have Hc:(r.1==[])=false:=yf.2 he
      by_cases ha:among b r.1=true
      ·have HV:Hid (T=r.2):=HT.out k r HR.out HN.out (by unfold qla;rw[ha,Bool.or_true])
       clear he;go_wp2_with (go_at_call 80;refine cm (qed b _ r.1 _ rfl (by omega)) ?_)
       go_ret
       exact⟨qal (by rw[HV.out]),hw⟩
      ·have ha:=ye.2 ha
       have HX:Hid (qla b r=false):=by show _=_;unfold qla;rw[Hc,ha];rfl
       clear he;go_wp2_with (go_at_call 80;refine cm (qed b _ r.1 _ rfl (by omega)) ?_)
       go_round
       case rel=>exact⟨k+1,by omega,by go_num,qdb _ k r HR.out HN.out HX.out⟩
       case measure=>simp[intOf];omega
    ·have HF:Hid (T=m):=hb.out k (by omega) HN.out
     have Hf:decide ((k:Int)<(L.length:Int))=false:=by rw[yO];omega
     go_wp2
     go_ret
     exact⟨qal (by rw[HF.out]),hw⟩
section
open Go.Lib
variable{w:World}{B g:Nat}{a0 a1 a2 a3 a4 a7 p v:Value}
structure WbAt(w:World)(B g:Nat)(a0 a1 a2 a3 a4 a7:Value)(l:zU)(p v:Value):Prop where
 le:B<=g
 blk:w.heap[g]?=zK #[a0,a1,a2,a3,a4,p,v,a7] 155
 own:w.ownsRowF B 5 1 v l.length (Lib.byteCells l)
 adr:p=.pointer none\/p=.pointer (some (zO g 5))
 nil:l=[]->v=zN
theorem WbAt.ne{l:zU}(h:WbAt w B g a0 a1 a2 a3 a4 a7 l p v):v.ownBlock≠some g:=ownBlock_neF h.own h.blk (by decide)
theorem WbAt.cells{l:zU}(h:WbAt w B g a0 a1 a2 a3 a4 a7 l p v):w.cell? (zO g 5)=some p/\w.cell? (zO g 6)=some v:=by
 have c:=qaa h.blk;exact⟨c 5 _ rfl,c 6 _ rfl⟩
theorem WbAt.form{l:zU}(h:WbAt w B g a0 a1 a2 a3 a4 a7 l p v):∃ao cap,v=.slice ao l.length cap:=by
 rcases h.own.2 with⟨hv,h0⟩|⟨k,cap,cur,fz,hv,_⟩
 ·exact⟨none,0,by rw[hv,h0]⟩
 ·exact⟨_,_,hv⟩
theorem zem(w:World)(B g:Nat)(a0 a1 a2 a3 a4 a7:Value)(l:zU)(p v:Value)(h:WbAt w B g a0 a1 a2 a3 a4 a7 l p v) :
  zC 188 #[.pointer (some (zO g 5))] w fun e w'=>e=.returned (.tuple #[])/\WbAt w' B g a0 a1 a2 a3 a4 a7 l (.pointer (some (zO g 5))) v/\Below B w w'/\OthersKept 5 (some g) w w':=by
 obtain⟨j,hj,Hc⟩:=yy.1 Builder_X72_240.sizeBuilder;have Ha:prog.info? 153=some j:=hj;have ha:liesAt prog prog.depth 155 (8 / prog.cellsOf 155) 5 153 1=true:=by kernel_rfl
 have Hb:w.shape? g=some (155,8):=by simp[World.shape?,h.blk]
 have he:w.frozen? (zO g 5)=false:=by simp[World.frozen?,h.blk]
 have He:=h.cells.1;rcases h.adr with hp|hp
 ·have hc:WbAt (w.setCell (zO g 5) (.pointer (some (zO g 5)))) B g a0 a1 a2 a3 a4 a7 l (.pointer (some (zO g 5))) v:=by
   refine⟨h.le,?_,h.own.kept (row:=some g) ⟨rfl,rfl,rfl,by simp[World.setCell],fun k _ hk=>xL _ _ _ _ (fun e=>hk (by simp[e]))⟩ (Or.inr h.ne),.inr rfl,h.nil⟩;exact xH _ _ _ _ _ _ h.blk
  have hb:Below B w (w.setCell (zO g 5) (.pointer (some (zO g 5)))):=(xM B w).setCell (p:=zO g 5) h.le _;have hk:OthersKept 5 (some g) w (w.setCell (zO g 5) (.pointer (some (zO g 5)))):=(OthersKept.refl _ _ w).setCell (zO g 5) rfl _;have HR:Hid (WbAt (w.setCell (zO g 5) (.pointer (some (zO g 5)))) B g a0 a1 a2 a3 a4 a7 l (.pointer (some (zO g 5))) v/\Below B w (w.setCell (zO g 5) (.pointer (some (zO g 5))))/\OthersKept 5 (some g) w (w.setCell (zO g 5) (.pointer (some (zO g 5))))):=⟨hc,hb,hk⟩;subst hp;clear h hc hb hk;go_enter func188,ntmps188
  go_wp2
  rw[Lib.run_to_unsafe w (zO g 5) underlying151 underlying328 Ha (by rw[Hc];decide) Hb (show(5:Nat)<8 by decide)];simp only[Result.andThen];rw[Oper.upon_value];go_wp2
  rw[run_callFunc_extern func221 (by kernel_rfl) (by kernel_rfl) (by kernel_rfl) (e:=Extern.AbiNoEscape.same) (by kernel_rfl)];rw[Lib.run_noEscape];simp only[Result.andThen];rw[Oper.upon_value];go_wp2
  rw[Lib.run_from_unsafe w (zO g 5) underlying328 underlying151 Ha Hb ha];simp only[Result.andThen];rw[Oper.upon_value];go_wp2
  go_end0
  exact⟨rfl,HR.out⟩
 ·subst hp
  have H:=zH h;clear h;go_enter func188,ntmps188
  go_wp2
  rw[Lib.run_neq_ptr_same w _ underlying151 Ha];go_wp2
  go_end0
  exact⟨rfl,H.out,xM B _,OthersKept.refl _ _ _⟩
theorem za3(w:World)(B g:Nat)(a0 a1 a2 a3 a4 a7:Value)(l:zU)(p v:Value)(h:WbAt w B g a0 a1 a2 a3 a4 a7 l p v) :
  zC 174 #[.pointer (some (zO g 5))] w (zQ (zI l.length) w):=by
 obtain⟨ao,cap,rfl⟩:=h.form;have c6:=h.cells.2;clear h;go_enter func174,ntmps174
 go_wp2
 go_ret
 exact⟨rfl,rfl⟩
theorem ql9{P:Program}(w:World){ops:Array Oper}{rest:List Oper}{o:Oper}{a:Act}{Q:Exit->Act->World->Prop}
  (hg:o.guard=none) (s x:Operand) (t u:TypeId) (ho:o.op=.call { callee:=.builtin .append,args:=#[s,x],argTypes:=#[t,u] }) (sv xv v':Value) (w':World) (hs:a.eval s=sv) (hx:a.eval x=xv)
  (ha:(Builtin.append_ #[t,u] o.type #[sv,xv]).run P w=.ok v' w') (hK:wpList P ops Q rest (a.put o.dst v') w'):wpList P ops Q (o::rest) a w:=by
 refine wpList_plain hg fun K Ha=>?_;unfold Oper.wp execOp;simp only[ho,resolve,invoke,builtin,Sem.run_bind,Sem.run_pure,Result.andThen_ok,List.map_toArray,List.map_cons,List.map_nil,hs,hx,ha];exact Ha _ _ hK
theorem zgq{w1:World}{l:zU}(h1:WbAt w1 B g a0 a1 a2 a3 a4 a7 l (.pointer (some (zO g 5))) v)(s:zT)(Hb:l.length+s.size<=140737488355328) :
  ∃ao n' cap w2,(Builtin.append_ #[82,9] 82 #[v,.string s]).run prog w1=.ok (.slice ao n' cap) w2/\w2.cell? (zO g 5)=some (.pointer (some (zO g 5)))/\w2.cell? (zO g 6)=some v/\w2.frozen? (zO g 6)=false /\
    (∃p' v',WbAt (w2.setCell (zO g 6) (.slice ao n' cap)) B g a0 a1 a2 a3 a4 a7 (l++s.data.toList) p' v')/\Below B w1 (w2.setCell (zO g 6) (.slice ao n' cap))/\OthersKept 5 (some g) w1 (w2.setCell (zO g 6) (.slice ao n' cap)):=by
 obtain⟨i0,hi,hf,Hf,hg⟩:=info_parts Builder_Extra_166.infoByte;have he:s.data.toList.length=s.size:=by simp
 have Hg:g<w1.heap.size:=(zL h1.blk);have He:=h1.le;obtain⟨v',w2,hr,ha,Ha,hc⟩:=run_append_own_stringF (P:=prog) w1 B 82 9 82 5 i0 underlying82 underlying9 hi hf Hf hg v l.length (Lib.byteCells l) h1.own s (by unfold maxLen;omega) Hb (by omega);have hb:w2.heap[g]?=zK #[a0,a1,a2,a3,a4,.pointer (some (zO g 5)),v,a7] 155:=by
  rw[Ha.block g Hg (fun e=>h1.ne e.symm)];exact h1.blk
 have d5:w2.cell? (zO g 5)=some (.pointer (some (zO g 5))):=qaa hb 5 _ rfl;have d6:w2.cell? (zO g 6)=some v:=qaa hb 6 _ rfl;have f6:w2.frozen? (zO g 6)=false:=by simp[World.frozen?,hb]
 obtain⟨ao,n',cap,rfl⟩:∃ao n' cap,v'=.slice ao n' cap:=by
  rcases ha.2 with⟨hv,_⟩|⟨k,cap,cur,fz,hv,_⟩
  ·exact⟨_,_,_,hv⟩
  ·exact⟨_,_,_,hv⟩
 have Hc:(Value.slice ao n' cap).ownBlock≠some g:=ownBlock_neF ha hb (by decide);refine⟨ao,n',cap,w2,hr,d5,d6,f6,⟨.pointer (some (zO g 5)),.slice ao n' cap,He,xH _ _ _ _ _ _ hb,?_,.inr rfl,fun hl=>?_⟩,((xM B w1).grown Ha (by omega) (fun k hk=>(h1.own.lt k hk).1)).setCell (p:=zO g 6) He _,((OthersKept.refl _ _ w1).grown Ha (Lib.ownsRowF_kind h1.own)).setCell (zO g 6) rfl _⟩
 ·have hx:w2.ownsRowF B 5 1 (.slice ao n' cap) (l++s.data.toList).length (Lib.byteCells (l++s.data.toList)):=by
   rw[yJ,he];have e:Lib.byteCells (l++s.data.toList)=Lib.byteCells l++Lib.strCells s:=by simp[Lib.byteCells,Lib.strCells]
   rw[e];exact ha
  exact hx.kept (row:=some g) ⟨rfl,rfl,rfl,by simp[World.setCell],fun k _ hk=>xL _ _ _ _ (fun e=>hk (by simp[e]))⟩ (Or.inr Hc)
 ·have h2:=List.append_eq_nil_iff.1 hl
  refine hc.2 ⟨h1.nil h2.1,?_⟩;rw[<-he,h2.2];rfl
theorem q62(w:World)(B g:Nat)(a0 a1 a2 a3 a4 a7:Value)(l:zU)(p v:Value)(h:WbAt w B g a0 a1 a2 a3 a4 a7 l p v)(s:zT)(ha:l.length+s.size<=140737488355328) :
  zC 142 #[.pointer (some (zO g 5)),.string s] w fun e w'=>e=.returned (.tuple #[zI s.size,.nilIface])/\(∃p' v',WbAt w' B g a0 a1 a2 a3 a4 a7 (l++s.data.toList) p' v')/\Below B w w'/\OthersKept 5 (some g) w w':=by
 have HC:Hid (zC 188 #[.pointer (some (zO g 5))] w fun e w1=>e=.returned (.tuple #[])/\∃ao n' cap w2,(Builtin.append_ #[82,9] 82 #[v,.string s]).run prog w1=.ok (.slice ao n' cap) w2/\w2.cell? (zO g 5)=some (.pointer (some (zO g 5)))/\w2.cell? (zO g 6)=some v/\w2.frozen? (zO g 6)=false /\
   w1.cell? (zO g 6)=some v/\Hid ((∃p' v',WbAt (w2.setCell (zO g 6) (.slice ao n' cap)) B g a0 a1 a2 a3 a4 a7 (l++s.data.toList) p' v')/\Below B w (w2.setCell (zO g 6) (.slice ao n' cap))/\OthersKept 5 (some g) w (w2.setCell (zO g 6) (.slice ao n' cap)))):=by
  refine(zem w B g a0 a1 a2 a3 a4 a7 l p v h).mono ?_;rintro e w1 ⟨he,h1,Ha,hb⟩;obtain⟨ao,n',cap,w2,hr,d5,d6,f6,hW,hB,hK⟩:=zgq h1 s ha;exact⟨he,ao,n',cap,w2,hr,d5,d6,f6,h1.cells.2,hW,Ha.trans (hB.mono (yg _)),hb.trans hK⟩
 clear h ha;go_enter func142,ntmps142
 go_wp2_with (first
  |(go_at_call 188;refine xR HC.out ?_;rintro e w1 ⟨rfl,ao,n',cap,w2,hr,d5,d6,f6,c6,HR⟩)
  | (at_builtin;refine ql9 _ rfl _ _ 82 9 rfl _ _ _ w2 rfl rfl hr ?_))
 go_ret2
 exact⟨rfl,HR.out⟩
theorem q2i(w:World)(B g:Nat)(a0 a1 a2 a3 a4 a7:Value)(l:zU)(p v:Value)(h:WbAt w B g a0 a1 a2 a3 a4 a7 l p v) :
  zC 61 #[.pointer (some (zO g 5))] w fun e w'=>e=.returned (zV l)/\Below B w w'/\OthersKept 5 (some g) w w'/\w'.heap[g]?=w.heap[g]?:=by
 by_cases hl:l=[]
 ·have hv:=h.nil hl
  subst hl;subst hv;have c6:w.drew.cell? (zO g 6)=some (zN):=h.cells.2;have hc:=fun(W:World) (q:Option Addr)=>Lib.run_unsafeString_none (P:=prog) W 209 3 9 q;have Hc:(Builtin.unsafeSliceData_ #[82] 209 #[zN]).run prog w.drew=.ok (.pointer none) w.drew:=rfl;clear h;go_enter func61,ntmps61
  go_wp2
  go_region
  all_goals(go_wp2;go_ret;exact⟨rfl,Below.drew (xM B w),(OthersKept.refl _ _ w).drew,rfl⟩)
 ·have he:l.length≠0:=by simpa using hl
  have ha:=h.own;obtain⟨k,cap,cur,fz,rfl,He,hk,hf,Hf,hb,hg,Ha⟩:∃k cap cur fz,v=zF k l.length cap/\B<=k/\w.heap[k]?=some (.cells cur 5 fz)/\fz.2<=l.length*1/\l.length<=cap/\cap<=maxLen/\cur.size=cap*1/\cur.toList.take (l.length*1)=Lib.byteCells l:=by
   rcases ha.2 with⟨_,hz⟩|⟨k,cap,cur,fz,hv,r⟩
   ·exact absurd hz he
   ·exact⟨k,cap,cur,fz,hv,r⟩
  have c6:w.drew.cell? (zO g 6)=some (zF k l.length cap):=h.cells.2;have Hg:k≠g:=fun e=>h.ne (by rw[e];rfl)
  have Hc:(Builtin.unsafeSliceData_ #[82] 209 #[zF k l.length cap]).run prog w.drew=.ok (zP k) w.drew:=
   Lib.run_unsafeSliceData_row _ _ _ _ _ _ (by omega)
  have hc:(Builtin.unsafeString_ #[209,3] 9 #[zP k,zI l.length]).run prog w.drew=.ok (zV l) (w.drew.freeze (zO k 0) l.length):=by
   refine Lib.run_unsafeString_row w.drew 209 3 9 5 underlying209 (by kernel_rfl) k cur.size (by have hi:w.drew.heap[k]?=some (.cells cur 5 fz):=hk;simp[World.shape?,hi]) l hl (by omega) (by unfold maxLen at hb;omega) ?_;intro j x hx;exact ha.cells (g:=k) rfl j (zJ x.toNat) (by simp[Lib.byteCells,hx])
  have Hb:(w.drew.freeze (zO k 0) l.length).heap[g]?=w.heap[g]?:=by
   unfold World.freeze;split
   ·rfl
   ·simp only[Array.getElem?_modify]
    rw[if_neg Hg];rfl
  have HR:Hid (Below B w (w.drew.freeze (zO k 0) l.length)/\OthersKept 5 (some g) w (w.drew.freeze (zO k 0) l.length)/\(w.drew.freeze (zO k 0) l.length).heap[g]?=w.heap[g]?):=⟨Lib.below_freeze (Below.drew (xM B w)) (p:=zO k 0) He _,((Lib.OthersKept.refl _ _ w).drew).freeze (zO k 0) _ ⟨cur,fz,hk⟩,Hb⟩;clear h ha hk hf Hf hb hg Ha Hb;go_enter func61,ntmps61
  go_wp2
  go_region
  all_goals(go_wp2;go_ret;exact⟨rfl,HR.out⟩)
variable{w:World}{B g:Nat}{a0 a1 a2 a3 a4 a7 p v:Value}
theorem WbAt.drew{l:zU}(h:WbAt w B g a0 a1 a2 a3 a4 a7 l p v):WbAt w.drew B g a0 a1 a2 a3 a4 a7 l p v:=⟨h.le,h.blk,h.own,h.adr,h.nil⟩
theorem WbAt.all{l:zU}(h:WbAt w B g a0 a1 a2 a3 a4 a7 l p v):w.cell? (zO g 0)=some a0/\w.cell? (zO g 1)=some a1/\w.cell? (zO g 2)=some a2/\w.cell? (zO g 3)=some a3/\w.cell? (zO g 4)=some a4/\w.cell? (zO g 7)=some a7/\∀j,w.frozen? (zO g j)=false:=by
 have c:=qaa h.blk;exact⟨c 0 _ rfl,c 1 _ rfl,c 2 _ rfl,c 3 _ rfl,c 4 _ rfl,c 7 _ rfl,fun j=>by simp[World.frozen?,h.blk]⟩
theorem q7t(w:World)(B g:Nat)(a0 a1 a2 a3 a7:Value)(l:zU)(p v:Value)(h:WbAt w B g a0 a1 a2 a3 (zI 5000) a7 l p v) :
  zC 124 #[zP g] w (zQ (zI 5) w):=by
 obtain⟨_,_,_,_,c4,_,_⟩:=h.all;clear h;go_enter func124,ntmps124
 go_wp2
 go_ret
 exact⟨rfl,rfl⟩
theorem ze2(w:World)(B g n:Nat)(a0 a1 a2 a3 a7:Value)(l:zU)(p v:Value)(hn:n<5000)(h:WbAt w B g a0 a1 a2 a3 (zI n) a7 l p v) :
  zC 124 #[zP g] w fun e w'=>e=.returned (zI 0)/\WbAt w' B g a0 a1 a2 a3 (zI (n+1:Nat)) a7 l p v/\Below B w w'/\OthersKept 5 (some g) w w':=by
 obtain⟨_,_,_,_,c4,_,hf⟩:=h.all;have f4:=hf 4;have ha:¬(n:Int)=5000:=by omega
 have hw:IntKind.i64.wrap ((n:Int)+1)=(n:Int)+1:=by rw[IntKind.wrap_i64];omega
 have Ha:(n:Int)+1<=5000:=by omega
 have HR:Hid (WbAt (w.setCell (zO g 4) (zI ((n:Int)+1))) B g a0 a1 a2 a3 (zI (n+1:Nat)) a7 l p v/\Below B w (w.setCell (zO g 4) (zI ((n:Int)+1)))/\OthersKept 5 (some g) w (w.setCell (zO g 4) (zI ((n:Int)+1)))):=by
  refine⟨⟨h.le,xH _ _ _ _ _ _ h.blk,h.own.kept (row:=some g) ⟨rfl,rfl,rfl,by simp[World.setCell],fun k _ hk=>xL _ _ _ _ (fun e=>hk (by simp[e]))⟩ (Or.inr h.ne),h.adr,h.nil⟩,(xM B w).setCell (p:=zO g 4) h.le _,(OthersKept.refl _ _ w).setCell (zO g 4) rfl _⟩
 clear h hf;go_enter func124,ntmps124
 go_wp2
 go_ret
 exact⟨rfl,HR.out⟩
theorem q6w(w:World)(B g:Nat)(a0 a1 a3 a4 a7:Value)(rm:Int)(l:zU)(p v:Value)(h:WbAt w B g a0 a1 (zI rm) a3 a4 a7 l p v)(s:zT)(Ha:l.length+s.size<=140737488355328)(hc:rm<=9223372036854775807)(hr:rm<0\/(l.length+s.size:Int)<=rm) :
  zC 125 #[zP g,.string s] w fun e w'=>e=.returned (zI 0)/\(∃p' v',WbAt w' B g a0 a1 (zI rm) a3 a4 a7 (l++s.data.toList) p' v')/\Below B w w'/\OthersKept 5 (some g) w w':=by
 have H:=zH h;have HW:Hid (∀m,zC 142 #[.pointer (some (zO g 5)),.string s] (w.drewN m) fun e w'=>e=.returned (.tuple #[zI s.size,.nilIface])/\(∃p' v',WbAt w' B g a0 a1 (zI rm) a3 a4 a7 (l++s.data.toList) p' v')/\Below B w w'/\OthersKept 5 (some g) w w'):=fun m=>by
  have h2:WbAt (w.drewN m) B g a0 a1 (zI rm) a3 a4 a7 l p v:=⟨h.le,h.blk,h.own,h.adr,h.nil⟩;refine(q62 (w.drewN m) B g a0 a1 (zI rm) a3 a4 a7 l p v h2 s Ha).mono ?_;rintro e w' ⟨he,hx,hb,hk⟩;exact⟨he,hx,(qat (xM B w) m).trans hb,fun k o ho h1 h2=>hk k o ho h1 h2⟩
 have HL:Hid (∀m,zC 174 #[.pointer (some (zO g 5))] (w.drewN m) fun e w'=>e=.returned (zI l.length)/\w.drewN m=w'):=fun m=>by
  have h2:WbAt (w.drewN m) B g a0 a1 (zI rm) a3 a4 a7 l p v:=⟨h.le,h.blk,h.own,h.adr,h.nil⟩;exact za3 (w.drewN m) B g a0 a1 (zI rm) a3 a4 a7 l p v h2
 obtain⟨_,_,c2,_,_,_,hf⟩:=h.all;clear h hf;by_cases ha:rm<0
 ·have Hb:decide ((0:Int)<=rm)=false:=by rw[yO];omega
  clear hr ha;go_enter func125,ntmps125
  go_wp2
  go_quiet (fail)
  go_wp2_with (go_at_call 142;refine xR (HW.out _) ?_;rintro e w' ⟨rfl,hR⟩)
  go_ret
  exact⟨rfl,hR⟩
 ·have Hb:decide ((0:Int)<=rm)=true:=by rw[decide_eq_true_iff];omega
  have Hc:((l.length+s.size:Nat):Int)<=rm:=by rcases hr with h|h<;>omega
  have hs:IntKind.i64.wrap (rm - (l.length:Int))=rm - (l.length:Int):=by rw[IntKind.wrap_i64];omega
  have He:decide (rm - (l.length:Int)<(s.size:Int))=false:=by rw[yO];omega
  have Hf:¬(rm - (l.length:Int)<(s.size:Int)):=by omega
  clear hr ha;go_enter func125,ntmps125
  go_wp2
  go_quiet ((go_at_call 174;refine qko (HL.out _)))
  go_wp2_with (go_at_call 142;refine xR (HW.out _) ?_;rintro e w' ⟨rfl,hR⟩)
  go_ret
  exact⟨rfl,hR⟩
end
def qzn(w:World):Prop:=Lib.TabIs prog w "internal/strconv.uint64pow10" .u64 Lib.pow10Tab
theorem qzn.below{B:Nat}{w w':World}(h:qzn w)(hb:Below B w w')(hB:14<B):qzn w':=var?_below hb (by kernel_rfl) hB h
theorem zbe(pv:Value)(ao:Option Addr)(n cap k:Nat)(Hb:pv=.agg #[.slice ao n cap,zI k])(d:Dt)(B:Nat)(w:World)(ha:-9223372036854775808<=d.n)(Ha:d.n<=9223372036854775807)
  (hP:∀w',zW w w'->qzn w')
  (hD:∀o,zC 215 #[pv] (w.alloc o) fun e w'=>(∃v,e=.returned v/\qm9 B (w.alloc o) d v)/\Below (w.alloc o).heap.size (w.alloc o) w') :
  zC 176 #[pv] w (zR (bs (qc7 d)) w):=by
 subst Hb;have HD:Hid (∀o,zC 215 #[.agg #[.slice ao n cap,zI k]] (w.alloc o) fun e w'=>(∃ia icap na ncap,e=.returned (.agg #[zI d.kind,zI d.n,bs d.s,.slice ia d.items.length icap,.slice na d.names.length ncap]))/\zW w w'):=fun o=>(hD o).mono (by
  rintro e w' ⟨⟨v,rfl,hv⟩,hb⟩;obtain⟨ia,icap,na,ncap,rfl,_,_⟩:=qhi hv;exact⟨⟨ia,icap,na,ncap,rfl⟩,(((xM w.heap.size w).alloc (yg _) o).trans (hb.mono (by rw[qcf];omega)))⟩)
 have HB:=zH (fun(b:Bool) (w:World)=>(strconv_FormatBool b w).mono (fun _ w' h=>(⟨h.1,h.2.symm⟩:_/\w=w')));have HF:Hid (∀w',zW w w'->zC 217 #[zI d.n,zI 10] w' fun e w2=>e=.returned (bs (Lib.itoa d.n))/\zW w w2):=fun w' hb=>(strconv_FormatInt_10 d.n ha Ha w' (hP w' hb)).mono (by
  rintro e w2 ⟨rfl,q,os,rfl⟩;exact⟨rfl,hb.trans ((Lib.below_grow w'.heap.size w' (yg _) q os).mono hb.size)⟩)
 have HV:Hid (bs (qc7 d)=if d.kind=1 then bs (Lib.formatBool (d.n != 0))else if d.kind=2 then bs (Lib.itoa d.n)else if d.kind=3 then bs d.s else bs []):=by
  show _=_;unfold qc7
  repeat' split
  all_goals rfl
 clear hD hP ha Ha;generalize bs (qc7 d)=R at HV |-;unfold bs at HD HF HV;generalize d.kind=dk at HD HV;generalize (⟨(Lib.itoa d.n).toArray⟩:zT)=it at HF HV;generalize d.n=dn at HD HV HF;generalize d.items.length=il at HD;generalize d.names.length=nl at HD;generalize (⟨d.s.toArray⟩:zT)=ds at HD HV;rcases(show dk=1\/dk=2\/dk=3\/(dk≠1/\dk≠2/\dk≠3) by omega)with rfl|rfl|rfl|⟨h1,h2,h3⟩
 all_goals
  go_enter func176,ntmps176
  go_wp2_with (first
   |(go_at_call 215;refine xR (HD.out _) ?_;rintro e w' ⟨⟨ia,icap,na,ncap,rfl⟩,hb⟩)
   |(go_at_call 216;refine cm (HB.out _ _) ?_)
   | (go_at_call 217;refine xR (HF.out _ (hb.alloc hb.size _)) ?_;rintro e w2 ⟨rfl,hc⟩))
  go_ret
 ·exact⟨by rw[HV.out];rfl,hb.alloc hb.size _⟩
 ·exact⟨by rw[HV.out];rfl,hc⟩
 ·exact⟨by rw[HV.out];rfl,hb.alloc hb.size _⟩
 ·exact⟨by rw[HV.out];simp[h1,h2,h3],hb.alloc hb.size _⟩
theorem qgw(b:UInt8)(all:zT)(l:zU)(w:World)(ha:all.data.toList=l)(h:among b l=true) :
  zC 130 #[.string all,zJ b.toNat] w fun e w'=>∃x:Int,0<=x/\e=.returned (zI x)/\w=w':=by
 refine(strings_IndexByte all b.toNat w).mono ?_;rintro e w' ⟨rfl,rfl⟩;refine⟨_,?_,rfl,rfl⟩;rw[qhs,ha];rcases qer l b with⟨a,_⟩|⟨_,a⟩
 ·exact a
 ·rw[h]at a;cases a
theorem qgd(b:UInt8)(all:zT)(l:zU)(w:World)(ha:all.data.toList=l)(h:among b l=false) :
  zC 130 #[.string all,zJ b.toNat] w (zQ (zI (-1)) w):=by
 refine(strings_IndexByte all b.toNat w).mono ?_;rintro e w' ⟨rfl,rfl⟩;refine⟨qal ?_,rfl⟩;rw[qhs,ha];rcases qer l b with⟨_,a⟩|⟨a,_⟩
 ·rw[h]at a;cases a
 ·exact a
theorem zcq:(prog.info? 5).map (fun i=>(i.zero,i.size,i.bytes))=some (some (zJ 0),1,1):=by kernel_rfl
theorem qiv(s:zT)(w:World)(hs:s.size<=100000000) :
  zC 137 #[.string s] w (zQ (zI (qej s.data.toList)) w):=by
 go_enter func137,ntmps137
 go_wp2
 go_loop [7] (fun i=>∃k:Nat,k<=s.size/\i=zI k/\run s.data.toList false=k+run (s.data.toList.drop k) (decide (0<k))) (fun i=>s.size - (intOf i).toNat)
 case atStart=>exact⟨0,yH _,rfl,by simp⟩
 case round=>
  obtain⟨k,hk,rfl,hr⟩:=hrel;have HR:Hid (run s.data.toList false=k+run (s.data.toList.drop k) (decide (0<k))):=hr;clear hr;by_cases ha:k<s.size
  ·by_cases hl:qbl s[k]=true
   ·have Ha:Hid (among s[k] qjz=true):=by show _=_;rw[<-qxk];exact hl
    go_wp2_with (first|(go_at_call 132;refine(qby s[k] _).mono ?_;rintro e w' ⟨rfl,rfl⟩))
    go_round
    case rel=>exact⟨k+1,by omega,by go_num,by rw[HR.out,q4w s k ha _ Ha.out];simp;omega⟩
    case measure=>simp[intOf];omega
   ·have hl:qbl s[k]=false:=by simpa using hl
    have Ha:Hid (among s[k] qjz=false):=by show _=_;rw[<-qxk];exact hl
    by_cases h0:0<k
    ·have Hc:((k:Int)==0)=false:=yf.2 (by omega)
     by_cases hc:s[k].toNat=58
     ·have hd:Hid (among s[k] qes=false):=by
       have:s[k]=58:=UInt8.toNat_inj.1 (by simpa using hc);show _=_;rw[this];decide
      have he:Hid (run s.data.toList false=k):=by show _=_;rw[HR.out,q2s s k ha _ Ha.out hd.out];rfl
      have hv:Hid (qej s.data.toList=k):=qk8 _ _ (q0i s k he.out h0 ha hc);have He:((s[k].toNat:Int)==58)=true:=yF.2 (by omega);clear hc;go_wp2_with (first|(go_at_call 132;refine(qby s[k] _).mono ?_;rintro e w' ⟨rfl,rfl⟩))
      go_ret
      exact⟨qal (by rw[hv.out]),rfl⟩
     ·have He:((s[k].toNat:Int)==58)=false:=yf.2 (by omega)
      by_cases hd:qea s[k]=true
      ·have hb:Hid (among s[k] qes=true):=by show _=_;rw[<-qvu,hd];rfl
       have Hb:Hid (decide (0<k)=true):=by show _=_;simpa using h0
       clear hc;go_wp2_with (first|(go_at_call 132;refine(qby s[k] _).mono ?_;rintro e w' ⟨rfl,rfl⟩)|(go_at_call 102;refine(qde s[k] _).mono ?_;rintro e w' ⟨rfl,rfl⟩))
       go_round
       case rel=>exact⟨k+1,by omega,by go_num,by rw[HR.out,Hb.out,qwx s k ha hb.out];simp;omega⟩
       case measure=>simp[intOf];omega
      ·have hd:qea s[k]=false:=by simpa using hd
       by_cases hp:among s[k] [43,45,46]=true
       ·have hb:Hid (among s[k] qes=true):=by show _=_;rw[<-qvu,hd,hp];rfl
        have Hb:Hid (decide (0<k)=true):=by show _=_;simpa using h0
        clear hc;go_wp2_with (first|(go_at_call 132;refine(qby s[k] _).mono ?_;rintro e w' ⟨rfl,rfl⟩)|(go_at_call 102;refine(qde s[k] _).mono ?_;rintro e w' ⟨rfl,rfl⟩)|(go_at_call 130;refine(qgw s[k] _ [43,45,46] _ rfl hp).mono ?_;rintro e w' ⟨x,hx,rfl,rfl⟩))
        go_round
        case rel=>exact⟨k+1,by omega,by go_num,by rw[HR.out,Hb.out,qwx s k ha hb.out];simp;omega⟩
        case measure=>simp[intOf];omega
       ·have hp:among s[k] [43,45,46]=false:=by simpa using hp
        have hb:Hid (among s[k] qes=false):=by show _=_;rw[<-qvu,hd,hp];rfl
        have he:Hid (run s.data.toList false=k):=by show _=_;rw[HR.out,q2s s k ha _ Ha.out hb.out];rfl
        have hv:Hid (qej s.data.toList=-1):=qf7 _ (q4s s k he.out ha hc);clear hc;go_wp2_with (first|(go_at_call 132;refine(qby s[k] _).mono ?_;rintro e w' ⟨rfl,rfl⟩)|(go_at_call 102;refine(qde s[k] _).mono ?_;rintro e w' ⟨rfl,rfl⟩)|(go_at_call 130;refine(qgd s[k] _ [43,45,46] _ rfl hp).mono ?_;rintro e w' ⟨rfl,rfl⟩))
        go_ret
        exact⟨qal (by rw[hv.out]),rfl⟩
    ·have Hc:((k:Int)==0)=true:=yF.2 (by omega)
     have he:Hid (run s.data.toList false=0):=by
      obtain rfl:k=0:=by omega
      show _=_;rw[HR.out];exact(xg _).trans (q74 s 0 ha Ha.out)
     have hv:Hid (qej s.data.toList=-1):=qf7 _ (qwt _ he.out);go_wp2_with (first|(go_at_call 132;refine(qby s[k] _).mono ?_;rintro e w' ⟨rfl,rfl⟩))
     go_ret
     exact⟨qal (by rw[hv.out]),rfl⟩
  ·have he:Hid (run s.data.toList false=k):=by show _=_;rw[HR.out,zbq s k ha];rfl
   have hv:Hid (qej s.data.toList=-1):=qf7 _ (qwu s k he.out ha);go_wp2
   go_ret
   exact⟨qal (by rw[hv.out]),rfl⟩
theorem q8y(n:Nat):(madeCells (Value.int .u8 0).cells (n*1)).toList=List.replicate n (zJ 0):=by
 rw[Nat.mul_one];exact toList_madeCells_one (zJ 0) n
theorem ze6(x:List Value)(n k:Nat)(z u:Value)(hx:x.length=k)(h:k<n):(x++List.replicate (n - k) z).set k u=(x++[u])++List.replicate (n - (k+1)) z:=by
 subst hx;rw[List.set_append_right _ _ (yg _),xA,show n - x.length=(n - (x.length+1))+1 by omega,List.replicate_succ,List.set_cons_zero,yq];rfl
theorem zax(s:zT)(w:World)(hs:s.size<=100000000) :
  zC 187 #[.string s] w (zR (zV (qfc s.data.toList)) w):=by
 obtain⟨i0,hi,hf,Hf,hg⟩:=info_parts zcq;go_enter func187,ntmps187
 go_wp2_with (at_make;refine wpList_make_full _ rfl _ _ 82 rfl w.heap.size 5 i0 (zJ 0) 1 underlying82 hi hf Hf .i64 .i64 _ _ s.size rfl rfl rfl rfl (by rw[hg];omega) (by unfold maxLen;omega) (yg _) ?_;intro w1 ha hc)
 rw[q8y]at ha;have Hc:zW w w1:=(xM _ _).grown hc (yg _) (fun k h=>by cases h);clear hc;go_loopw [4,10] (fun _ i wr=>∃k:Nat,k<=s.size/\i=zI k/\wr.ownsRow w.heap.size 5 1 (zF w.heap.size s.size s.size) s.size (Lib.byteCells (qfc (s.data.toList.take k))++List.replicate (s.size - k) (zJ 0))/\zW w wr) (fun _ i _=>s.size - (intOf i).toNat)
 case atStart=>exact⟨0,yH _,rfl,by simpa [qfc,Lib.byteCells]using ha,Hc⟩
 case round=>
  obtain⟨k,hk,rfl,Ha,Hb⟩:=hrel;clear ha Hc;by_cases he:k<s.size
  ·have hz:=Hb.size
   have hb:(Lib.byteCells (qfc (s.data.toList.take k))).length=k:=by rw[qv0];unfold qfc;rw[yR,q2m s k hk]
   have Hg:wr.cell? (zO w.heap.size k)=some (zJ 0):=by
    rw[Ha.cellAt k (by omega),yt (by omega),hb];rw[xA,List.getElem?_replicate,if_pos (by omega)]
   have Hi:=Ha.frozenAt k;have HT:Hid (Lib.byteCells (qfc (s.data.toList.take (k+1)))=Lib.byteCells (qfc (s.data.toList.take k))++[zJ (small s[k]).toNat]):=by
    show _=_;rw[qdn s k he,show qfc (s.data.toList.take k++[s[k]])=qfc (s.data.toList.take k)++[small s[k]] by simp[qfc],qkb]
   go_wp2_with (go_at_call 131;refine(qja s[k] _).mono ?_;rintro e w' ⟨rfl,rfl⟩)
   have He:=Ha.stored k (zJ (small s[k]).toNat);rw[ze6 _ _ _ _ _ hb he]at He;go_roundw
   case rel=>
    refine⟨k+1,by omega,by go_num,?_,Hb.setCell (p:=zO w.heap.size k) (yg _) _⟩;rw[HT.out];exact He.1
   case measure=>simp[intOf];omega
  ·have e:(qfc s.data.toList).length=s.size:=by unfold qfc;rw[yR];rfl
   rw[qeo s k (by omega),show s.size - k=0 by omega,List.replicate_zero,yw]at Ha;have hj:=zdh (P:=prog) wr 82 9 5 underlying82 underlying5 underlying9 w.heap.size _ (qfc s.data.toList) (by rw[e];exact Ha);clear e;go_wp2
   go_ret
   exact⟨rfl,Hb⟩
def q1l:zU:=[104,116,116,112]
def qq5:zU:=[104,116,116,112,115]
def qlw:zU:=[109,97,105,108,116,111]
def q29(l:zU):Bool:=qfc l==q1l || (qfc l==qq5 || qfc l==qlw)
theorem qtb(s:zT)(w:World)(hs:s.size<=100000000)(ht:Tabs w) :
  zC 138 #[.string s] w (zR (.bool (q29 s.data.toList)) w):=by
 have HO:Hid (q29 s.data.toList=(qfc s.data.toList==q1l || (qfc s.data.toList==qq5 || qfc s.data.toList==qlw))):=rfl;generalize hp:qfc s.data.toList=p at HO;have HP:Hid (qfc s.data.toList=p):=hp;clear hp;have i0:∀w,(Instr.index 294 (.agg qig) (zI 0)).run prog w=.ok (.string ⟨#[104,116,116,112]⟩) w:=fun _=>by kernel_rfl
 have i1:∀w,(Instr.index 294 (.agg qig) (zI 1)).run prog w=.ok (.string ⟨#[104,116,116,112,115]⟩) w:=fun _=>by kernel_rfl
 have i2:∀w,(Instr.index 294 (.agg qig) (zI 2)).run prog w=.ok (.string ⟨#[109,97,105,108,116,111]⟩) w:=fun _=>by kernel_rfl
 go_enter func138,ntmps138
 go_wp2_with fail
 refine(zax s _ hs).mono ?_;rintro e w1 ⟨rfl,hb⟩;have Hb:=ht.kept hb ht.lt;rw[HP.out];go_wp2_with (refine qib rfl 294 _ rfl 7 rfl qig _ Hb.1 underlying294 rfl (by kernel_rfl) ?_)
 go_loopw [5,9] (fun _ i wr=>∃k:Nat,k<=3/\i=zI k/\(1<=k->(p==q1l)=false)/\(2<=k->(p==qq5)=false)/\(3<=k->(p==qlw)=false)/\zW w wr) (fun _ i _=>3 - (intOf i).toNat)
 case atStart=>exact⟨0,by omega,rfl,by omega,by omega,by omega,hb⟩
 case round=>
  obtain⟨k,hk,rfl,h1,h2,h3,Ha⟩:=hrel;have H1:Hid (1<=k->(p==q1l)=false):=h1;have H2:Hid (2<=k->(p==qq5)=false):=h2;have H3:Hid (3<=k->(p==qlw)=false):=h3;clear h1 h2 h3;rcases(show k=0\/k=1\/k=2\/k=3 by omega)with rfl|rfl|rfl|rfl
  ·by_cases hq:(p==q1l)=true
   ·have ha:(p==[104,116,116,112])=true:=hq
    clear hq;go_wp2
    go_ret
    exact⟨qas (by rw[HO.out];show true=((p==[104,116,116,112]) || _);rw[ha];rfl),Ha⟩
   ·have hq:(p==q1l)=false:=by simpa using hq
    have HQ:Hid ((p==q1l)=false):=hq;have ha:(p==[104,116,116,112])=false:=hq;clear hq;go_wp2
    go_roundw
    case rel=>exact⟨1,by omega,rfl,fun _=>HQ.out,by omega,by omega,Ha⟩
    case measure=>simp[intOf]
  ·by_cases hq:(p==qq5)=true
   ·have ha:(p==[104,116,116,112,115])=true:=hq
    clear hq;go_wp2
    go_ret
    exact⟨qas (by rw[HO.out];show true=(_ || ((p==[104,116,116,112,115]) || _));rw[ha];simp),Ha⟩
   ·have hq:(p==qq5)=false:=by simpa using hq
    have HQ:Hid ((p==qq5)=false):=hq;have ha:(p==[104,116,116,112,115])=false:=hq;clear hq;go_wp2
    go_roundw
    case rel=>exact⟨2,by omega,rfl,fun _=>H1.out (by omega),fun _=>HQ.out,by omega,Ha⟩
    case measure=>simp[intOf]
  ·by_cases hq:(p==qlw)=true
   ·have ha:(p==[109,97,105,108,116,111])=true:=hq
    clear hq;go_wp2
    go_ret
    exact⟨qas (by rw[HO.out];show true=(_ || (_ || (p==[109,97,105,108,116,111])));rw[ha];simp),Ha⟩
   ·have hq:(p==qlw)=false:=by simpa using hq
    have HQ:Hid ((p==qlw)=false):=hq;have ha:(p==[109,97,105,108,116,111])=false:=hq;clear hq;go_wp2
    go_roundw
    case rel=>exact⟨3,by omega,rfl,fun _=>H1.out (by omega),fun _=>H2.out (by omega),fun _=>HQ.out,Ha⟩
    case measure=>simp[intOf]
  ·go_wp2
   go_ret
   exact⟨qas (by rw[HO.out,H1.out (by omega),H2.out (by omega),H3.out (by omega)];rfl),Ha⟩
theorem zd4(r:Int):(Lib.runeCells r).length<=4:=(Lib.runeCells_le r).2
theorem qte(w:World):(w.alloc (Obj.cells #[Value.pointer none,Value.slice none 0 0] 153)).heap[w.heap.size]?=zK #[.pointer none,zN] 153:=by
 show(w.heap.push _)[w.heap.size]?=_;simp
theorem qy2(s:zT)(w:World)(hs:s.size<=100000000) :
  zC 99 #[.string s] w (zR (zV (qd3 s.data.toList)) w):=by
 go_enter func99,ntmps99
 go_wp2_with fail
 refine(Builder_Grow_fresh w.heap.size w.heap.size s.size _ (yg _) (qte w) (by simp) (by omega)).mono ?_;rintro e W1 ⟨rfl,Hg,he⟩;have Hi:w.heap.size+1<=W1.heap.size:=by have:=he.size;simpa using this
 have hc:zW w W1:=((xM _ w).alloc (yg _) _).trans he;go_wp2
 go_loopw [] (fun wr=>∃(pos:Nat) (acc:zU),Lib.IsBuilderF 153 5 w.heap.size w.heap.size (Lib.byteCells acc) wr/\wr.heap[W1.heap.size]?=some (.stringIter s pos)/\zW w wr/\acc++qd3 (s.data.toList.drop pos)=qd3 s.data.toList/\acc.length<=4*pos/\pos<=s.size) (fun wr=>s.size - wr.iterPos (W1.heap.size))
 case atStart=>
  refine⟨0,[],(Lib.IsBuilderF.of (Or.inr Hg)).alloc _,?_,hc.alloc (by omega) _,rfl,by simp,by omega⟩;exact World.iter_heap W1 s 0
 case round=>
  obtain⟨pos,acc,hI,hit,He,Ha,hj,Hj⟩:=hrel;have HA:Hid (acc++qd3 (s.data.toList.drop pos)=qd3 s.data.toList):=Ha;clear Ha;have hk:W1.heap.size<wr.heap.size:=(ya.1 hit).1;by_cases hp:pos<s.size
  ·have hi:∀ty,(Instr.next (zP W1.heap.size) true ty).run prog wr=_:=fun ty=>Lib.run_next_any_at wr W1.heap.size s pos ty hit hp
   have Hk:1<=(Utf8.decode s pos).2:=Lib.decode_width_pos s pos hp;have hl:=decode_le s pos;have hf:pos+(Utf8.decode s pos).2<=s.size:=by
    have:=Lib.decodeL_le (s.data.toList.drop pos) (by rw[qj6 s pos hp];simp);rw[<-qrd]at this;rw[yM,q84]at this;omega
   have Hf:Hid (qd3 (s.data.toList.drop pos)=_):=q6h s pos hp;have hg:=hI.iterAt hit (pos+(Utf8.decode s pos).2);have ha:=Lib.iterAt_heap wr W1.heap.size s pos (pos+(Utf8.decode s pos).2) hit;have hb:=Lib.below_iterAt He (k:=W1.heap.size) (by omega) s (pos+(Utf8.decode s pos).2);have Hb:w.heap.size<=(wr.iterAt W1.heap.size s (pos+(Utf8.decode s pos).2)).heap.size:=by rw[Lib.iterAt_size];omega
   by_cases h0:((Utf8.decode s pos).1:Int)=0
   ·have H0:Hid (((Utf8.decode s pos).1:Int)=0):=h0
    have h1:(((Utf8.decode s pos).1:Int)==0)=true:=yF.2 h0;clear h0;go_wp2_with (go_at_call 140;refine(Builder_WriteRune_k w.heap.size w.heap.size _ 65533 (by omega) (by omega) _ hg (by rw[Lib.byteCells_length];omega) Hb).mono ?_)
    rintro e W2 ⟨rfl,h2,b2,k2⟩;go_wp2
    go_roundw
    case rel=>
     refine⟨pos+(Utf8.decode s pos).2,acc++Lib.encodeRune 65533,?_,k2.iter ha (by omega),hb.trans b2,?_,?_,hf⟩
     ·rw[Lib.byteCells_append,Lib.byteCells_encodeRune];exact Or.inr h2
     ·rw[<-HA.out,Hf.out,if_pos H0.out,yq]
     ·have Hc:=zd4 65533
      rw[Lib.runeCells_length]at Hc;simp only[yJ];omega
    case measure=>
     simp only[World.iterPos,k2.iter ha (by omega),hit];omega
   ·have H0:Hid (¬((Utf8.decode s pos).1:Int)=0):=h0
    have h1:(((Utf8.decode s pos).1:Int)==0)=false:=yf.2 h0;clear h0;go_wp2_with (go_at_call 140;refine(Builder_WriteRune_k w.heap.size w.heap.size _ _ (by omega) (by omega) _ hg (by rw[Lib.byteCells_length];omega) Hb).mono ?_)
    rintro e W2 ⟨rfl,h2,b2,k2⟩;go_wp2
    go_roundw
    case rel=>
     refine⟨pos+(Utf8.decode s pos).2,acc++Lib.encodeRune ((Utf8.decode s pos).1:Int),?_,k2.iter ha (by omega),hb.trans b2,?_,?_,hf⟩
     ·rw[Lib.byteCells_append,Lib.byteCells_encodeRune];exact Or.inr h2
     ·rw[<-HA.out,Hf.out,if_neg H0.out,yq]
     ·have Hc:=zd4 ((Utf8.decode s pos).1:Int)
      rw[Lib.runeCells_length]at Hc;simp only[yJ];omega
    case measure=>
     simp only[World.iterPos,k2.iter ha (by omega),hit];omega
  ·have hi:∀ty,(Instr.next (zP W1.heap.size) true ty).run prog wr=_:=fun ty=>Lib.run_next_end_at wr W1.heap.size s pos ty hit hp
   go_wp2_with (go_at_call 61;refine(Builder_String_any_k w.heap.size w.heap.size acc _ hI (by omega)).mono ?_)
   rintro e W2 ⟨rfl,_,b2,_⟩;go_wp2
   go_ret
   have e:=HA.out;rw[qvt s pos hp,zak,yw]at e;exact⟨qcl (by rw[<-e]),He.trans b2⟩
section
variable {w0 w w':World}{g:Nat}{s s':Sx}
structure Sx2(w0 w:World)(s:Sx):Prop where
 sp:w.heap[w0.heap.size]?=zK (qaf s) 162
 res:w.heap[w0.heap.size+1]?=zK (qaf ⟨⟨0,[],[],0,0,false⟩,⟨false,0,0,0⟩⟩) 162
 low:zW w0 w
 tabs:PTabs w
theorem Sx2.lt(h:Sx2 w0 w s):w0.heap.size+1<w.heap.size:=(zL h.res)
theorem Sx2.kept(h:Sx2 w0 w s)(hb:zW w w'):Sx2 w0 w' s:=by
 have:=h.lt;exact⟨(hb.block _ (by omega)).trans h.sp,(hb.block _ (by omega)).trans h.res,h.low.trans (hb.mono (by omega)),h.tabs.kept hb⟩
theorem Sx2.alloc(h:Sx2 w0 w s)(o:Obj):Sx2 w0 (w.alloc o) s:=h.kept ((xM _ w).alloc (yg _) o)
theorem Sx2.drew(h:Sx2 w0 w s):Sx2 w0 w.drew s:=h.kept (xM _ w).drew
theorem Sx2.put(h:Sx2 w0 w s)(ht:PTabs w0)(j:Nat)(v:Value)(e:(qaf s).set! j v=qaf s'):Sx2 w0 (w.setCell (zO w0.heap.size j) v) s':=by
 refine⟨?_,(xK _ _ _ _ (by show w0.heap.size+1≠w0.heap.size;omega)).trans h.res,h.low.setCell (yg _) _,ht.kept (h.low.setCell (yg _) _)⟩;rw[<-e];exact xH w _ j _ _ _ h.sp
theorem Sx2.marks(h:Sx2 w0 w s)(ht:PTabs w0)(e:Bool)(k:Mk):Sx2 w0 (setM w w0.heap.size (.bool k.ref) (.bool e) (zI k.hex) (zI k.pct) (zI k.far)) ⟨⟨s.st.mode,s.st.name,s.st.elem,s.st.kind,s.st.read,e⟩,k⟩:=by
 have h1:=h.put (s':=⟨s.st,⟨k.ref,s.ma.hex,s.ma.pct,s.ma.far⟩⟩) ht 5 (.bool k.ref) rfl;have h2:=h1.put (s':=⟨⟨s.st.mode,s.st.name,s.st.elem,s.st.kind,s.st.read,e⟩,⟨k.ref,s.ma.hex,s.ma.pct,s.ma.far⟩⟩) ht 6 (.bool e) rfl;have h3:=h2.put (s':=⟨⟨s.st.mode,s.st.name,s.st.elem,s.st.kind,s.st.read,e⟩,⟨k.ref,k.hex,s.ma.pct,s.ma.far⟩⟩) ht 7 (zI k.hex) rfl;have h4:=h3.put (s':=⟨⟨s.st.mode,s.st.name,s.st.elem,s.st.kind,s.st.read,e⟩,⟨k.ref,k.hex,k.pct,s.ma.far⟩⟩) ht 8 (zI k.pct) rfl;exact h4.put (s':=⟨⟨s.st.mode,s.st.name,s.st.elem,s.st.kind,s.st.read,e⟩,k⟩) ht 9 (zI k.far) rfl
theorem Sx2.all(h:Sx2 w0 w s)(ht:PTabs w0)(y:Sx):Sx2 w0 (qdf w w0.heap.size (zJ (y.st.mode:Int)) (zV y.st.name) (zV y.st.elem) (zI y.st.kind) (zI (y.st.read:Int)) (.bool y.ma.ref) (.bool y.st.esc) (zI y.ma.hex) (zI y.ma.pct) (zI y.ma.far)) y:=by
 have h1:=h.put (s':=⟨⟨y.st.mode,s.st.name,s.st.elem,s.st.kind,s.st.read,s.st.esc⟩,s.ma⟩) ht 0 (zJ (y.st.mode:Int)) rfl;have h2:=h1.put (s':=⟨⟨y.st.mode,y.st.name,s.st.elem,s.st.kind,s.st.read,s.st.esc⟩,s.ma⟩) ht 1 (bs y.st.name) rfl;have h3:=h2.put (s':=⟨⟨y.st.mode,y.st.name,y.st.elem,s.st.kind,s.st.read,s.st.esc⟩,s.ma⟩) ht 2 (bs y.st.elem) rfl;have h4:=h3.put (s':=⟨⟨y.st.mode,y.st.name,y.st.elem,y.st.kind,s.st.read,s.st.esc⟩,s.ma⟩) ht 3 (zI y.st.kind) rfl;have h5:=h4.put (s':=⟨⟨y.st.mode,y.st.name,y.st.elem,y.st.kind,y.st.read,s.st.esc⟩,s.ma⟩) ht 4 (zI (y.st.read:Int)) rfl;exact h5.marks ht y.st.esc y.ma
theorem Sx2.start(ht:PTabs w0)(s:Sx):Sx2 w0 ((w0.alloc (.cells (qaf s) 162)).alloc (.cells (qaf ⟨⟨0,[],[],0,0,false⟩,⟨false,0,0,0⟩⟩) 162)) s:=
 ⟨(xJ _ _ (by simp)).trans (xG w0 _),qap _ _ _ (by simp),(zB _).alloc (by simp) _,ht.kept ((zB _).alloc (by simp) _)⟩
end
variable{m:Nat}{b:UInt8}
theorem qvk(x:Sx)(b:UInt8)(w:World)(he:x.st.esc=false) :
  zC 94 #[qar x,zJ b.toNat] w (zR (qu5 (qa7 x.st.mode x.st.esc b) (!x.st.esc)) w):=by
 have HV:Hid (qa7 x.st.mode x.st.esc b=Mk.none):=by show _=_;unfold qa7;rw[if_pos he]
 rw[HV.out];unfold qu5 qgg Mk.none qar qaf bs;rw[he];clear HV he;go_enter func94,ntmps94
 go_wp2
 refine qb8 results94 (w.heap.size+1) _ _ underlying160 rfl rfl (zfz w _ _) (by kernel_rfl) rfl ?_;exact⟨rfl,(by repeat(first|refine Below.alloc ?_ (by simp<;>omega) _|exact xM _ _))⟩
theorem q1t(k:Nat)(r:Nat×Nat×zU×Int)(hr:qfd[k]?=some r)(hn:(qfd.take k).find? (qdp m b)=none)(h:qdp m b r=true):qa7 m true b=⟨false,r.2.2.2,0,0⟩:=by
 unfold qa7;rw[if_neg (by simp),qo9 _ k r hr hn h]
theorem qyg(hn:(qfd.take 3).find? (qdp m b)=none):qa7 m true b=Mk.none:=by
 unfold qa7;rw[if_neg (by simp),show qfd=qfd.take 3 from rfl,hn]
structure EscAt(w0 w:World)(g:Nat)(x:Sx):Prop where
 at':SxAt w g x
 res:qet 5 w (g+1)
 below:Below g w0 w
 eq:w0.heap.size=g
theorem EscAt.alloc{w0 w:World}{g:Nat}{x:Sx}(h:EscAt w0 w g x)(o:Obj):EscAt w0 (w.alloc o) g x:=
 ⟨h.at'.kept ((xM _ w).alloc (yg _) o) (by have:=h.res.lt;omega),h.res.alloc o,h.below.alloc (by have:=h.res.lt;omega) o,h.eq⟩
theorem qr7(x:Sx)(b:UInt8)(w:World)(ht:PTabs w)(he:x.st.esc=true) :
  zC 94 #[qar x,zJ b.toNat] w (zR (qu5 (qa7 x.st.mode x.st.esc b) (!x.st.esc)) w):=by
 have HE:EscAt w ((w.alloc (.cells (qaf x) 162)).alloc (.cells #[.bool false,.bool false,zI 0,zI 0,zI 0] 160)) w.heap.size x:=
  ⟨(qkk w x _).kept (zB _) (by simp),q7v 5 _ _ _ _ (by simp) rfl,(zB _).alloc (by simp) _,rfl⟩
 have HE:=zH HE;rw[he];have HX:=zH he;have HT:=zH ht;clear he ht;unfold qu5 qgg;unfold qar;unfold qaf bs at HE |-;rw[HX.out]at HE |-;go_enter func94,ntmps94
 go_wp2
 go_loopw [5,6,12] (fun _ _ i wr=>∃k:Nat,k<=3/\i=zI k/\Hid (EscAt w wr w.heap.size x/\(qfd.take k).find? (qdp x.st.mode b)=none)) (fun _ _ i _=>3 - (intOf i).toNat)
 case atStart=>exact⟨0,by omega,rfl,HE.out,rfl⟩
 case round=>
  obtain⟨k,hk,rfl,HR⟩:=hrel;clear HE;by_cases Hc:k<3
  ·obtain⟨r,hr⟩:∃r,qfd[k]?=some r:=⟨_,yc (show k<qfd.length from Hc)⟩
   have hc:PTabs wr:=HT.out.kept HR.out.1.below;obtain⟨c0,c1,c2,c3⟩:=zcc hc.le k r hr;rw[Nat.mul_comm 4 k]at c0 c1 c2 c3;unfold bs at c2;have HN:=zH HR.out.2;have Ha:=zH HR.out.1;have Hb:=zH hr;have He:(k:Int)<3:=by omega
   have q0:=fun o=>(HR.out.1.alloc o).at'.mode;clear hc hr;by_cases h1:r.1<=x.st.mode
   ·have hf:(r.1:Int)<=(x.st.mode:Int):=by omega
    by_cases h2:x.st.mode<=r.2.1
    ·have Hf:(x.st.mode:Int)<=(r.2.1:Int):=by omega
     by_cases h3:among b r.2.2.1=true
     ·have HV:=zH (q1t k r Hb.out HN.out (by unfold qdp;rw[yV h1,yV h2,h3];rfl))
      have ha:=Ha.out.res;have hb:=Ha.out.below;obtain⟨v0,p0⟩:=Ha.out.res.cellA 0 (by omega);obtain⟨v1,p1⟩:=Ha.out.res.cellA 1 (by omega);obtain⟨v2,p2⟩:=Ha.out.res.cellA 2 (by omega);obtain⟨v3,p3⟩:=Ha.out.res.cellA 3 (by omega);obtain⟨v4,p4⟩:=Ha.out.res.cellA 4 (by omega);have f0:=Ha.out.res.thawA 0;have f1:=Ha.out.res.thawA 1;have f2:=Ha.out.res.thawA 2;have f3:=Ha.out.res.thawA 3;have f4:=Ha.out.res.thawA 4;clear HR;go_wp2_with (go_at_call 130;refine(qb7 b _ r.2.2.1 _ rfl h3).mono ?_;rintro e w' ⟨x',hg,rfl,rfl⟩)
      refine qi5 results94 (w.heap.size+1) _ underlying160 rfl (by kernel_rfl) rfl (ha.alloc _) rfl _ _ _ _ _ ?_;rw[HV.out];exact⟨rfl,qn5 (hb.alloc hb.size _) (by omega) _ _ _ _ _⟩
     ·have h3:=ye.2 h3
      have HV:=zH (qdb (qdp x.st.mode b) k r Hb.out HN.out (by unfold qdp;rw[h3];simp));clear HR;go_wp2_with (go_at_call 130;refine cm (qci b _ r.2.2.1 _ rfl h3) ?_)
      go_roundw
      case rel=>exact⟨k+1,by omega,by go_num,Ha.out.alloc _,HV.out⟩
      case measure=>simp[intOf];omega
    ·have Hf:decide (x.st.mode<=r.2.1)=false:=yx h2
     have HV:=zH (qdb (qdp x.st.mode b) k r Hb.out HN.out (by unfold qdp;rw[yx h2];simp));clear HR h2;go_wp2
     go_roundw
     case rel=>exact⟨k+1,by omega,by go_num,Ha.out.alloc _,HV.out⟩
     case measure=>simp[intOf];omega
   ·have hf:decide (r.1<=x.st.mode)=false:=yx h1
    have HV:=zH (qdb (qdp x.st.mode b) k r Hb.out HN.out (by unfold qdp;rw[yx h1];simp));clear HR h1;go_wp2
    go_roundw
    case rel=>exact⟨k+1,by omega,by go_num,Ha.out.alloc _,HV.out⟩
    case measure=>simp[intOf];omega
  ·obtain rfl:k=3:=by omega
   have HV:=zH (qyg HR.out.2);have ha:=HR.out.1.res;have hb:=HR.out.1.below;obtain⟨v0,p0⟩:=ha.cell 0 (by omega);obtain⟨v1,p1⟩:=ha.cell 1 (by omega);obtain⟨v2,p2⟩:=ha.cell 2 (by omega);obtain⟨v3,p3⟩:=ha.cell 3 (by omega);obtain⟨v4,p4⟩:=ha.cell 4 (by omega);have f0:=ha.thaw 0;have f1:=ha.thaw 1;have f2:=ha.thaw 2;have f3:=ha.thaw 3;have f4:=ha.thaw 4;clear HR;go_wp2
   refine qi5 results94 (w.heap.size+1) _ underlying160 rfl (by kernel_rfl) rfl ha rfl _ _ _ _ _ ?_;rw[HV.out];exact⟨rfl,qn5 hb (by omega) _ _ _ _ _⟩
theorem q1u(x:Sx)(b:UInt8)(w:World)(ht:PTabs w) :
  zC 94 #[qar x,zJ b.toNat] w (zR (qu5 (qa7 x.st.mode x.st.esc b) (!x.st.esc)) w):=by
 by_cases he:x.st.esc=true
 ·exact qr7 x b w ht he
 ·exact qvk x b w (ye.2 he)
section
variable {w0 w w':World}{g:Nat}{x:Sx}{k k':Mk}{t:TypeId}{fz:Nat×Nat}{u0 u1 u2 u3 u4:Value}
structure Mk3(w0 w:World)(x:Sx)(k:Mk):Prop where
 sp:w.heap[w0.heap.size]?=zK (qaf x) 162
 res:w.heap[w0.heap.size+1]?=zK (qgg ⟨false,0,0,0⟩ false) 160
 tt:w.heap[w0.heap.size+1+1]?=zK (qgg k false) 160
 low:zW w0 w
theorem Mk3.kept(h:Mk3 w0 w x k)(hb:zW w w'):Mk3 w0 w' x k:=by
 have:=(ya.1 h.tt).1;exact⟨(hb.block _ (by omega)).trans h.sp,(hb.block _ (by omega)).trans h.res,(hb.block _ (by omega)).trans h.tt,h.low.trans (hb.mono (by omega))⟩
theorem Mk3.put(h:Mk3 w0 w x k)(j:Nat)(v:Value)(e:(qgg k false).set! j v=qgg k' false):Mk3 w0 (w.setCell (zO (w0.heap.size+1+1) j) v) x k':=by
 refine⟨(xK _ _ _ _ (by show w0.heap.size≠w0.heap.size+1+1;omega)).trans h.sp,(xK _ _ _ _ (by show w0.heap.size+1≠w0.heap.size+1+1;omega)).trans h.res,?_,h.low.setCell (by show w0.heap.size<=w0.heap.size+1+1;omega) _⟩;rw[<-e];exact xH w _ j _ _ _ h.tt
theorem Mk3.start(w0:World)(x:Sx)(k:Mk):Mk3 w0 (((w0.alloc (.cells (qaf x) 162)).alloc (.cells (qgg ⟨false,0,0,0⟩ false) 160)).alloc (.cells (qgg k false) 160)) x k:=
 ⟨(xJ _ _ (by simp;omega)).trans ((xJ _ _ (by simp)).trans (xG w0 _)),(xJ _ _ (by simp)).trans (qap _ _ _ (by simp)),qap _ _ _ (by simp),((zB _).alloc (by simp) _).alloc (by simp;omega) _⟩
end
theorem q4l(x:Sx)(b:UInt8)(w:World)(hx:-1000<=x.ma.hex/\x.ma.hex<=1000)(hy:-1000<=x.ma.pct/\x.ma.pct<=1000) :
  zC 133 #[qar x,zJ b.toNat] w (zR (qu5 (qch x.st.kind x.st.mode x.ma b) false) w):=by
 have hI:=fun w=>qkt x w;have hW:=fun w=>ql8 x.st.mode w;have Ha:=fun w=>q1r x b w;have hV:qch x.st.kind x.st.mode x.ma b=⟨if(qa0 x.st.mode==1)=true then b==38 || (x.ma.ref && qxy b)else false,qds x.ma.hex b,if qb4 x.st.kind x.st.mode=true then(if b=37 then 2 else qds x.ma.pct b)else 0,if qb4 x.st.kind x.st.mode=true then qdt x.st.kind x.st.mode x.ma.far b else 0⟩:=by
  unfold qch;simp only[yF]
 rw[hV];have H0:=zH (Mk3.start w x ⟨false,qds x.ma.hex b,0,0⟩);generalize qa0 x.st.mode=WA at hW |-;generalize qb4 x.st.kind x.st.mode=IL at hI |-;generalize qdt x.st.kind x.st.mode x.ma.far b=FA at Ha |-;generalize hQ:(fun(e:Ending) (w':World)=>e=.returned (qu5 _ false)/\zW w w')=Q;have HQ:=zH hQ;have Hb:=zH (And.intro hx hy);clear hV hQ hx hy;unfold qgg at H0;unfold qar qaf bs at hI Ha |-;unfold qaf bs at H0;have HI:=zH hI;have HW:=zH hW;have He:=zH Ha;clear hI hW Ha;go_enter func133,ntmps133
 go_upto_if 15 with(first|(go_at_call 182;refine(qyc _ b _ Hb.out.1.1 Hb.out.1.2).mono ?_;rintro e w' ⟨rfl,rfl⟩)|(go_at_call 154;refine(HW.out _).mono ?_;rintro e w' ⟨rfl,rfl⟩))
 generalize World.alloc _ _=w2 at H0 |-;go_cut [] (fun wx=>Hid (Mk3 w wx x ⟨if(WA==1)=true then b==38 || (x.ma.ref && qxy b)else false,qds x.ma.hex b,0,0⟩))
 case first=>
  cases hc:WA==1
  ·have ha:=zH hc
   clear hc;go_wp2
   go_meet
   rw[ha.out,if_neg Bool.false_ne_true];exact H0
  have ha:=zH hc;have t0:=qaa H0.out.tt 0 _ rfl;have g0:=xI _ _ 0 _ _ H0.out.tt;have q5:=qaa H0.out.sp 5 _ rfl;have HP:Hid (∀v:Bool,Mk3 w (w2.setCell (zO (w.heap.size+1+1) 0) (.bool v)) x ⟨v,qds x.ma.hex b,0,0⟩):=fun v=>H0.out.put 0 _ (by rfl);clear hc;rcases Bool.eq_false_or_eq_true (b==38)with hb|hb
  ·have Hc:((b.toNat:Int)==38)=true:=(qil b 38 (by omega)).trans hb
   have HB:=zH hb;clear hb;go_wp2
   go_meet
   rw[ha.out,if_pos rfl,HB.out];exact HP.out true
  have Hc:((b.toNat:Int)==38)=false:=(qil b 38 (by omega)).trans hb;have HB:=zH hb;clear hb;rcases Bool.eq_false_or_eq_true x.ma.ref with hr|hr
  ·rw[hr]at q5
   have HR:=zH hr;clear hr;go_wp2_with (go_at_call 183;refine(q9c b _).mono ?_;rintro e w' ⟨rfl,rfl⟩)
   go_meet
   rw[ha.out,if_pos rfl,HB.out,HR.out];exact HP.out _
  ·rw[hr]at q5
   have HR:=zH hr;clear hr;go_wp2
   go_meet
   rw[ha.out,if_pos rfl,HB.out,HR.out];exact HP.out false
 case rest=>
 have H1:=zH hcut.out;clear hcut H0;generalize (if(WA==1)=true then b==38 || (x.ma.ref && qxy b)else false)=RF at H1 HQ;obtain⟨q0,q1,q2,q3,q4,q5,q6,q7,q8,q9⟩:=(show _/\_/\_/\_/\_/\_/\_/\_/\_/\_ from⟨qaa H1.out.sp 0 _ rfl,qaa H1.out.sp 1 _ rfl,qaa H1.out.sp 2 _ rfl,qaa H1.out.sp 3 _ rfl,qaa H1.out.sp 4 _ rfl,qaa H1.out.sp 5 _ rfl,qaa H1.out.sp 6 _ rfl,qaa H1.out.sp 7 _ rfl,qaa H1.out.sp 8 _ rfl,qaa H1.out.sp 9 _ rfl⟩);unfold bs at q1 q2;go_upto_if 29 with(go_at_call 153;refine(HI.out _).mono ?_;rintro e w' ⟨rfl,rfl⟩)
 have H2:=zH (H1.out.kept ((xM wc.heap.size wc).alloc (yg _) (.cells #[zJ (x.st.mode:Int),zV x.st.name,zV x.st.elem,zI x.st.kind,zI (x.st.read:Int),.bool x.ma.ref,.bool x.st.esc,zI x.ma.hex,zI x.ma.pct,zI x.ma.far] 162)));generalize World.alloc wc _=w3 at H2 |-;go_cut [] (fun wx=>Hid (Mk3 w wx x ⟨RF,qds x.ma.hex b,if IL=true then(if b=37 then 2 else qds x.ma.pct b)else 0,if IL=true then FA else 0⟩))
 case first=>
  cases IL
  ·go_wp2
   go_meet
   exact H2
  clear q0 q1 q2 q3 q4 q5 q6 q7 q8 q9 H1;have q8:=qaa H2.out.sp 8 _ rfl;have t3:=qaa H2.out.tt 3 _ rfl;have g3:=xI _ _ 3 _ _ H2.out.tt;go_upto_region 6 with(go_at_call 182;refine(qyc _ b _ Hb.out.2.1 Hb.out.2.2).mono ?_;rintro e w' ⟨rfl,rfl⟩)
  have H3:Hid (Mk3 w (w3.setCell (zO (w.heap.size+1+1) 3) (zI (qds x.ma.pct b))) x ⟨RF,qds x.ma.hex b,qds x.ma.pct b,0⟩):=H2.out.put 3 _ (by rfl);generalize World.setCell w3 _ _=w4 at H3 |-;clear q8 t3 g3;have t3:=qaa H3.out.tt 3 _ rfl;have g3:=xI _ _ 3 _ _ H3.out.tt;go_upto_if 37 with fail
  go_cut [] (fun wx=>Hid (Mk3 w wx x ⟨RF,qds x.ma.hex b,if b=37 then 2 else qds x.ma.pct b,0⟩))
  case first=>
   by_cases hb:b=37
   ·subst hb
    go_wp2
    go_meet
    exact H3.out.put 3 _ (by rfl)
   ·have Hc:((b.toNat:Int)==37)=false:=(qil b 37 (by omega)).trans (yf.2 hb)
    have HB:=zH hb;clear hb;go_wp2
    go_meet
    rw[if_neg HB.out];exact H3
  case rest=>
  have H4:=zH hcut.out;clear hcut H3 H2 t3 g3;obtain⟨q0,q1,q2,q3,q4,q5,q6,q7,q8,q9⟩:=(show _/\_/\_/\_/\_/\_/\_/\_/\_/\_ from⟨qaa H4.out.sp 0 _ rfl,qaa H4.out.sp 1 _ rfl,qaa H4.out.sp 2 _ rfl,qaa H4.out.sp 3 _ rfl,qaa H4.out.sp 4 _ rfl,qaa H4.out.sp 5 _ rfl,qaa H4.out.sp 6 _ rfl,qaa H4.out.sp 7 _ rfl,qaa H4.out.sp 8 _ rfl,qaa H4.out.sp 9 _ rfl⟩);unfold bs at q1 q2;go_wp2_with (go_at_call 184;refine(He.out _).mono ?_;rintro e w5 ⟨rfl,he⟩;have H5:=zH (H4.out.kept he);clear he;have t4:=qaa H5.out.tt 4 _ rfl;have g4:=xI _ _ 4 _ _ H5.out.tt)
  go_meet
  exact H5.out.put 4 _ (by rfl)
 case rest=>
 have H3:=zH hcut.out;clear hcut H2 H1 q0 q1 q2 q3 q4 q5 q6 q7 q8 q9;generalize (if IL=true then(if b=37 then 2 else qds x.ma.pct b)else 0)=PC at H3 HQ;generalize (if IL=true then FA else 0)=FR at H3 HQ;obtain⟨t0,t1,t2,t3,t4⟩:=zeh H3.out.tt;have r0:=zeh H3.out.res;have f0:=zh8 H3.out.res;go_wp2
 refine qi5 results133 (w.heap.size+1) _ underlying160 rfl (by kernel_rfl) rfl ⟨_,_,H3.out.res,rfl⟩ rfl _ _ _ _ _ ?_;rw[<-HQ.out];exact⟨rfl,qn5 H3.out.low (by simp) _ _ _ _ _⟩
variable{s:St}
theorem q05(h:s.mode=3):s.named=⟨3,[],qaw s.name,s.kind,s.read,s.esc⟩:=by
 unfold St.named;rw[if_pos h,if_neg (by omega),h]
theorem q5l(h:s.mode=5):s.named=⟨5,[],s.elem,qc1 s.name,s.read,s.esc⟩:=by
 unfold St.named;rw[if_neg (by omega),if_pos h,h]
theorem q06(h:¬s.mode=3)(h':¬s.mode=5):s.named=⟨s.mode,[],s.elem,s.kind,s.read,s.esc⟩:=by
 unfold St.named;rw[if_neg h,if_neg h']
theorem q8p(x:Sx)(w:World)(ht:PTabs w) :
  zC 134 #[qar x] w fun e w'=>e=.returned (qar ⟨x.st.named,x.ma⟩)/\(w.alloc (.cells (qaf ⟨x.st.named,x.ma⟩) 162)).alloc (.cells (qaf ⟨x.st.named,x.ma⟩) 162)=w':=by
 obtain⟨s,k⟩:=x;unfold qar qaf bs;by_cases h3:s.mode=3
 ·have HV:Hid (s.named=_):=q05 h3
  simp only;rw[h3];go_enter func134,ntmps134
  go_wp2_with (go_at_call 185;refine cm (qvr s.name _ (by repeat(first|exact ht|apply PTabs.alloc|apply PTabs.drew))) ?_)
  refine qb8 results134 (w.heap.size+1) _ _ underlying162 rfl rfl (qap _ _ _ (by simp)) (by kernel_rfl) rfl ?_;rw[HV.out];exact⟨rfl,rfl⟩
 by_cases h5:s.mode=5
 ·have HV:Hid (s.named=_):=q5l h5
  simp only;rw[h5];go_enter func134,ntmps134
  go_wp2_with (go_at_call 186;refine cm (q5u s.name _ (by repeat(first|exact ht|apply PTabs.alloc|apply PTabs.drew))) ?_)
  refine qb8 results134 (w.heap.size+1) _ _ underlying162 rfl rfl (qap _ _ _ (by simp)) (by kernel_rfl) rfl ?_;rw[HV.out];exact⟨rfl,rfl⟩
 have ha:((s.mode:Int)==3)=false:=by rw[yf];omega
 have Ha:((s.mode:Int)==5)=false:=by rw[yf];omega
 have HV:Hid (s.named=_):=q06 h3 h5;simp only;clear h3 h5 ht;go_enter func134,ntmps134
 go_wp2
 refine qb8 results134 (w.heap.size+1) _ _ underlying162 rfl rfl (qap _ _ _ (by simp)) (by kernel_rfl) rfl ?_;rw[HV.out];exact⟨rfl,rfl⟩
theorem qs7(n:zU)(b:UInt8)(w:World)(hn:n.length<=9) :
  zC 135 #[zV n,zJ b.toNat] w (zR (zV (qc8 n b)) w):=by
 by_cases h9:n.length=9
 ·exact(q1b n b w h9).mono fun e w' h=>⟨h.1,h.2▸xM _ _⟩
 ·exact(q1a n b w hn h9).mono fun e w' h=>⟨h.1,h.2▸zB _⟩
theorem zfr(x:Sx)(tq:Nat)(b:UInt8)(w:World)(ht:PTabs w)(hn:x.st.name.length<=9)(hm:x.st.mode<=33)(he:x.st.esc=false)(hx:-1000<=x.ma.hex/\x.ma.hex<=1000)(hy:-1000<=x.ma.pct/\x.ma.pct<=1000) :
  zC 96 #[qar x,zJ tq,zJ b.toNat] w (zR (qar (x.led tq b)) w):=by
 have hS:=fun w=>q4l x b w hx hy;have hN:=fun(w:World) ht=>(q8p x w ht).mono (R':=(zR (qar ⟨x.st.named,x.ma⟩) w)) fun e w' h=>⟨h.1,h.2▸(zB _).alloc (by simp) _⟩;obtain⟨⟨M,nm,el,kd,rd,es⟩,k⟩:=x;simp only at hn hm he hS hN;subst he;obtain⟨V,hV⟩:∃V,Sx.led ⟨⟨M,nm,el,kd,rd,false⟩,k⟩ tq b=V:=⟨_,rfl⟩;rw[hV];have hc:V=if tq=M then⟨St.led1 ⟨M,nm,el,kd,rd,false⟩ tq b,if tq=34 then Mk.none else qch kd M k b⟩else⟨St.led1 (St.named ⟨M,nm,el,kd,rd,false⟩) tq b,if tq=34 then Mk.none else Mk.none⟩:=by
  rw[<-hV];unfold Sx.led St.led qms;by_cases e:tq=M
  ·rw[if_pos e,if_pos e]
   by_cases e2:tq=34
   ·rw[if_neg (fun q=>q.2 e2),if_pos e2]
   ·rw[if_pos ⟨e,e2⟩,if_neg e2]
  ·rw[if_neg e,if_neg e,if_neg (fun q=>e q.1),ite_self]
 obtain⟨n1,n2,n3,Hc⟩:∃n1 n2 n3,St.named ⟨M,nm,el,kd,rd,false⟩=⟨M,n1,n2,n3,rd,false⟩/\n1.length<=9:=by
  unfold St.named
  repeat' split
  all_goals exact⟨_,_,_,rfl,by simp⟩
 rw[Hc.1]at hc hN;generalize hQ:(fun(e:Ending) (w':World)=>e=.returned (qar V)/\zW w w')=Q;have H0:=zH (Sx2.start ht (⟨⟨M,nm,el,kd,rd,false⟩,k⟩:Sx));have HF:Hid (∀(wx:World) (q:Sx) (a:Act),wx.heap[w.heap.size+1]?=zK (qaf ⟨⟨0,[],[],0,0,false⟩,⟨false,0,0,0⟩⟩) 162->zW w wx->V=q->a.tmps.getD 6 undef=zP (w.heap.size+1)->a.defers=[]->bodyPost prog f96 Q .ret a (qdf wx (w.heap.size+1) (zJ (q.st.mode:Int)) (zV q.st.name) (zV q.st.elem) (zI q.st.kind) (zI (q.st.read:Int)) (.bool q.ma.ref) (.bool q.st.esc) (zI q.ma.hex) (zI q.ma.pct) (zI q.ma.far))):=by
  intro wx q a h hl e h6 hd;refine qle results96 (w.heap.size+1) _ underlying162 rfl (by kernel_rfl) h6 ⟨_,_,h,rfl⟩ hd _ _ _ _ _ _ _ _ _ _ ?_;rw[<-hQ,e];exact⟨rfl,qfe hl (by omega) _ _ _ _ _ _ _ _ _ _⟩
 have HV:=zH hc;have Ha:=zH ht;have He:=(show Hid (nm.length<=9/\n1.length<=9)from⟨hn,Hc.2⟩);unfold qar at hS hN |-;unfold qu5 qgg at hS;unfold qaf bs at H0 hS hN |-;have HS:=zH hS;have HN:=zH hN;clear hV hc hQ hS hN hn Hc ht;go_enter func96,ntmps96
 go_upto_region 1 with fail
 generalize World.alloc _ _=w1 at H0 |-;obtain⟨q0,q1,q2,q3,q4,q5,q6,q7,q8,q9⟩:=qcq H0.out.sp;obtain⟨g0,g1,g2,g3,g4,g5,g6,g7,g8,g9⟩:=qgm H0.out.sp;go_upto_if 10 with fail
 go_cut [] (fun wx=>∃(n1 n2:zU) (n3:Int) (k1:Mk),Hid (Sx2 w wx ⟨⟨M,n1,n2,n3,rd,false⟩,k1⟩/\n1.length<=9/\V=⟨St.led1 ⟨M,n1,n2,n3,rd,false⟩ tq b,if tq=34 then Mk.none else k1⟩))
 case first=>
  by_cases e:tq=M
  ·subst e
   have hv:=HV.out;rw[if_pos rfl]at hv;have hf:=zH hv;clear hv HV;go_wp2_with (go_at_call 133;refine(HS.out _).mono ?_;rintro e w3 ⟨rfl,ha⟩;have H3:=zH (H0.out.kept ha);clear ha;have r0:=qcq H3.out.sp;have f0:=qgm H3.out.sp)
   go_meet
   exact⟨nm,el,kd,_,H3.out.marks Ha.out false (qch kd tq k b),He.out.1,hf.out⟩
  ·have e':((tq:Int)==(M:Int))=false:=yf.2 (by omega)
   have hv:=HV.out;rw[if_neg e]at hv;have hf:=zH hv;clear hv HV e;go_wp2_with (go_at_call 134;refine(HN.out _ H0.out.tabs).mono ?_;rintro e w3 ⟨rfl,ha⟩;have H3:=zH (H0.out.kept ha);clear ha;have r0:=qcq H3.out.sp;have f0:=qgm H3.out.sp)
   go_meet
   exact⟨n1,n2,n3,_,(H3.out.all Ha.out ⟨⟨M,n1,n2,n3,rd,false⟩,k⟩).marks Ha.out false Mk.none,He.out.2,hf.out⟩
 case rest=>
 obtain⟨n1,n2,n3,k1,HC⟩:=hcut;have H1:=zH HC.out.1;have Hb:=zH HC.out.2;clear H0 HV He HC HS HN q0 q1 q2 q3 q4 q5 q6 q7 q8 q9 g0 g1 g2 g3 g4 g5 g6 g7 g8 g9;have q0:=qaa H1.out.sp 0 _ rfl;have g0:=xI _ _ 0 _ _ H1.out.sp;go_upto_region 6 with fail
 have H2:Hid (Sx2 w (wc.setCell (zO w.heap.size 0) (zJ tq)) ⟨⟨tq,n1,n2,n3,rd,false⟩,k1⟩):=H1.out.put Ha.out 0 _ (by rfl);generalize World.setCell wc _ _=w2 at H2 |-;clear H1 q0 g0;obtain⟨q0,q1,q2,q3,q4,q5,q6,q7,q8,q9⟩:=qcq H2.out.sp;obtain⟨g0,g1,g2,g3,g4,g5,g6,g7,g8,g9⟩:=qgm H2.out.sp;by_cases e34:tq=34
 ·subst e34
  have r0:=qcq H2.out.res;have f0:=qgm H2.out.res;have HW:=zH (fun w=>(show PTabs w->zC 136 #[zV n2] w fun e w'=>e=.returned (qar ⟨qad n2,Mk.none⟩)/\zW w w' from fun ht=>(q34 n2 w ht).mono fun e w' h=>⟨h.1,h.2▸zB _⟩));have hb:Hid (V=⟨qad n2,Mk.none⟩):=Hb.out.2;clear q0 q1 q3 q4 q5 q6 q7 q8 q9 g0 g1 g2 g3 g4 g5 g6 g7 g8 g9 r0 f0;generalize qad n2=I at HW hb;unfold qar qaf bs at HW;go_wp2_with (go_at_call 136;refine(HW.out _ H2.out.tabs).mono ?_;rintro e w3 ⟨rfl,ha⟩;have H3:=zH (H2.out.kept ha);clear ha;have r0:=qcq H3.out.res;have f0:=qgm H3.out.res)
  exact HF.out _ ⟨I,Mk.none⟩ _ H3.out.res H3.out.low hb.out rfl rfl
 have hb:Hid (V=⟨St.led1 ⟨M,n1,n2,n3,rd,false⟩ tq b,k1⟩):=by have:=Hb.out.2;rw[if_neg e34]at this;exact this
 go_upto_block 0 with fail
 go_cut [22,29,37,41] (fun s22 s29 s37 s41 wx=>∃y:Sx,Hid (Sx2 w wx y/\V=y))
 case first=>
  by_cases k3:tq=3
  ·subst k3
   go_wp2_with (go_at_call 135;refine(qs7 n1 b _ Hb.out.1).mono ?_;rintro e w3 ⟨rfl,ha⟩;have H3:=zH (H2.out.kept ha);clear ha;have r0:=qcq H3.out.sp;have f0:=qgm H3.out.sp)
   go_meet
   exact⟨_,H3.out.put (s':=⟨⟨3,qc8 n1 b,n2,n3,rd,false⟩,k1⟩) Ha.out 1 _ (by rfl),hb.out⟩
  by_cases k5:tq=5
  ·subst k5
   go_wp2_with (go_at_call 135;refine(qs7 n1 b _ Hb.out.1).mono ?_;rintro e w3 ⟨rfl,ha⟩;have H3:=zH (H2.out.kept ha);clear ha;have r0:=qcq H3.out.sp;have f0:=qgm H3.out.sp)
   go_meet
   exact⟨_,(H3.out.put (s':=⟨⟨5,qc8 n1 b,n2,n3,rd,false⟩,k1⟩) Ha.out 1 _ (by rfl)).put (s':=⟨⟨5,qc8 n1 b,n2,0,rd,false⟩,k1⟩) Ha.out 3 _ (by rfl),hb.out⟩
  by_cases k4:tq=4\/tq=10
  ·rcases k4 with rfl | rfl
   all_goals
    go_wp2
    go_meet
    exact⟨_,H2.out.put (s':=⟨⟨_,n1,n2,0,rd,false⟩,k1⟩) Ha.out 3 _ (by rfl),hb.out⟩
  have hk:((tq:Int)==3)=false/\((tq:Int)==5)=false/\((tq:Int)==4)=false/\((tq:Int)==10)=false/\((tq:Int)==34)=false:=by simp;omega
  obtain⟨e1,e2,e3,e4,e5⟩:=hk;have Hf:Hid (V=⟨⟨tq,n1,n2,n3,rd,false⟩,k1⟩):=by have:=hb.out;unfold St.led1 at this;rw[if_neg k3,if_neg k5,if_neg k4,if_neg e34]at this;exact this
  clear k3 k5 k4 e34;go_wp2
  go_meet
  exact⟨_,H2.out,Hf.out⟩
 case rest=>
 obtain⟨y,HY⟩:=hcut;clear q0 q1 q2 q3 q4 q5 q6 q7 q8 q9 g0 g1 g2 g3 g4 g5 g6 g7 g8 g9 H2 hb Hb;obtain⟨q0,q1,q2,q3,q4,q5,q6,q7,q8,q9⟩:=qcq HY.out.1.sp;have r0:=qcq HY.out.1.res;have f0:=qgm HY.out.1.res;unfold bs at q1 q2;go_wp2
 exact HF.out _ y _ HY.out.1.res HY.out.1.low HY.out.2 rfl rfl
theorem q2x(a b c:Nat):or3 a b c=if a≠0 then a else if b≠0 then b else c:=rfl
theorem zg8(a b c:Nat)(g:Nat)(w:World)(h0:w.cell? (zO g 0)=some (zJ (a:Int)))(h1:w.cell? (zO g 1)=some (zJ (b:Int)))(h2:w.cell? (zO g 2)=some (zJ (c:Int))) :
  zC 97 #[zF g 3 3] w (zQ (zJ (or3 a b c:Nat)) w):=by
 generalize Ha:or3 a b c=r;have HO:Hid (or3 a b c=r):=Ha;clear Ha;go_enter func97,ntmps97
 go_wp2
 go_loop [5,8] (fun _ i=>∃k:Nat,k<=3/\i=zI k/\(1<=k->a=0)/\(2<=k->b=0)/\(3<=k->c=0)) (fun _ i=>3 - (intOf i).toNat)
 case atStart=>exact⟨0,by omega,rfl,by omega,by omega,by omega⟩
 case round=>
  obtain⟨k,hk,rfl,g1,g2,g3⟩:=hrel;have H1:Hid (1<=k->a=0):=g1;have H2:Hid (2<=k->b=0):=g2;have H3:Hid (3<=k->c=0):=g3;clear g1 g2 g3;rcases(show k=0\/k=1\/k=2\/k=3 by omega)with rfl|rfl|rfl|rfl
  ·by_cases hq:a=0
   ·have HQ:Hid (a=0):=hq
    have ha:((a:Int) != 0)=false:=by rw[hq];rfl
    clear hq;go_wp2
    go_round
    case rel=>exact⟨1,by omega,rfl,fun _=>HQ.out,by omega,by omega⟩
    case measure=>simp[intOf]
   ·have q0:a≠0:=hq
    have HV:Hid (r=a):=by show _=_;rw[<-HO.out,q2x,if_pos q0]
    have ha:((a:Int) != 0)=true:=by rw[bne_iff_ne];omega
    clear hq q0;go_wp2
    go_ret
    exact⟨qal (by rw[HV.out]),rfl⟩
  ·by_cases hq:b=0
   ·have HQ:Hid (b=0):=hq
    have ha:((b:Int) != 0)=false:=by rw[hq];rfl
    clear hq;go_wp2
    go_round
    case rel=>exact⟨2,by omega,rfl,fun _=>H1.out (by omega),fun _=>HQ.out,by omega⟩
    case measure=>simp[intOf]
   ·have q0:b≠0:=hq
    have HV:Hid (r=b):=by show _=_;rw[<-HO.out,q2x,if_neg (by simp[H1.out (by omega)]),if_pos q0]
    have ha:((b:Int) != 0)=true:=by rw[bne_iff_ne];omega
    clear hq q0;go_wp2
    go_ret
    exact⟨qal (by rw[HV.out]),rfl⟩
  ·by_cases hq:c=0
   ·have HQ:Hid (c=0):=hq
    have ha:((c:Int) != 0)=false:=by rw[hq];rfl
    clear hq;go_wp2
    go_round
    case rel=>exact⟨3,by omega,rfl,fun _=>H1.out (by omega),fun _=>H2.out (by omega),fun _=>HQ.out⟩
    case measure=>simp[intOf]
   ·have q0:c≠0:=hq
    have HV:Hid (r=c):=by show _=_;rw[<-HO.out,q2x,if_neg (by simp[H1.out (by omega)]),if_neg (by simp[H2.out (by omega)])]
    have ha:((c:Int) != 0)=true:=by rw[bne_iff_ne];omega
    clear hq q0;go_wp2
    go_ret
    exact⟨qal (by rw[HV.out]),rfl⟩
  ·have HV:Hid (r=0):=by show _=_;rw[<-HO.out,q2x,if_neg (by simp[H1.out (by omega)]),if_neg (by simp[H2.out (by omega)])];exact H3.out (by omega)
   go_wp2
   go_ret
   exact⟨qal (by rw[HV.out];rfl),rfl⟩
theorem q8l(a b c g:Nat)(w:World)(t:TypeId)(hg:w.heap.size=g) :
  zC 97 #[zF g 3 3] (w.alloc (.cells #[zJ (a:Int),zJ (b:Int),zJ (c:Int)] t)).drew fun e w'=>e=.returned (zJ (or3 a b c:Nat))/\(w.alloc (.cells #[zJ (a:Int),zJ (b:Int),zJ (c:Int)] t)).drew=w':=by
 subst hg;have h:=qaa (xG w (.cells #[zJ (a:Int),zJ (b:Int),zJ (c:Int)] t));exact zg8 a b c _ _ (h 0 _ rfl) (h 1 _ rfl) (h 2 _ rfl)
end Go.Proofs.YtfkhljmiehdgmaaGreatDoor
