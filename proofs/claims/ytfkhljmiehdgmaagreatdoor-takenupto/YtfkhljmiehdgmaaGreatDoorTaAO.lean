/-
  Steps of the proof (texts laid together, blanks left out): WalkH, PlainL, WalkO, PlainM, WalkP, PlainN.
-/
import Derived.BigCall
import Derived.Test.YtfkhljmiehdgmaaGreatDoorTaAN
import Derived.Test.YtfkhljmiehdgmaaGreatDoorTaAC
import Derived.Test.YtfkhljmiehdgmaaGreatDoorTaAB
import Derived.Lib.UnsafeStr
namespace Go.Proofs.YtfkhljmiehdgmaaGreatDoor
open Go.RowKit
theorem q47 (r:Int):(Lib.runeCells r).length≤4:=(Lib.runeCells_le r).2
theorem qpr (w:World):(w.alloc (Obj.cells #[Value.pointer none,Value.slice none 0 0] 153)).heap[w.heap.size]?=some (.cells #[.pointer none,.slice none 0 0] 153 (0,0)):=by
 show (w.heap.push _)[w.heap.size]?=_
 simp
set_option maxRecDepth 1000000 in
set_option maxHeartbeats 4000000 in
theorem qt2 (s:ByteArray) (w:World) (hs:s.size≤100000000) :
  Calls Tryz.prog 99 #[.string s] w fun e w'=>e=.returned (.string ⟨(Pl.qdb s.data.toList).toArray⟩)∧Below w.heap.size w w':=by
 go_enter Tryz.func99,Tryz.ntmps99
 go_wp2_with fail
 refine(Tryz.Builder_Grow_fresh w.heap.size w.heap.size s.size _ (Nat.le_refl _) (qpr w) (by simp) (by omega)).mono ?_
 rintro e W1 ⟨rfl,hB1,hbe⟩
 have hz1:w.heap.size+1≤W1.heap.size:=by have:=hbe.size; simpa using this
 have hbw1:Below w.heap.size w W1:=((Below.refl _ w).alloc (Nat.le_refl _) _).trans hbe
 go_wp2
 go_loopw [] (fun wr=>∃(pos:Nat) (acc:List UInt8),Lib.IsBuilderF 153 5 w.heap.size w.heap.size (Lib.byteCells acc) wr∧wr.heap[W1.heap.size]?=some (.stringIter s pos)∧Below w.heap.size w wr∧acc++Pl.qdb (s.data.toList.drop pos)=Pl.qdb s.data.toList∧acc.length≤4*pos∧pos≤s.size) (fun wr=>s.size - wr.iterPos (W1.heap.size))
 case atStart=>
  refine⟨0,[],(Lib.IsBuilderF.of (Or.inr hB1)).alloc _,?_,hbw1.alloc (by omega) _,rfl,by simp,by omega⟩
  exact World.iter_heap W1 s 0
 case round=>
  obtain⟨pos,acc,hI,hit,hbw,hacc,hal,hps⟩:=hrel
  have HA:Hid (acc++Pl.qdb (s.data.toList.drop pos)=Pl.qdb s.data.toList):=hacc
  clear hacc
  have hsz:W1.heap.size<wr.heap.size:=(Array.getElem?_eq_some_iff.1 hit).1
  by_cases hp:pos<s.size
  ·have hnx:∀ ty,(Instr.next (.pointer (some ⟨W1.heap.size,0,none⟩)) true ty).run Tryz.prog wr=_:=fun ty=>Lib.run_next_any_at wr W1.heap.size s pos ty hit hp
   have hwd:1≤(Utf8.decode s pos).2:=Lib.decode_width_pos s pos hp
   have hd1:=decode_le s pos
   have hwl:pos+(Utf8.decode s pos).2≤s.size:=by
    have:=Lib.decodeL_le (s.data.toList.drop pos) (by rw[Pl.qh0 s pos hp]; simp)
    rw[← Pl.qn8]at this
    rw[List.length_drop,Pl.qw3]at this; omega
   have hst:Hid (Pl.qdb (s.data.toList.drop pos)=_):=Pl.qzg s pos hp
   have hI2:=hI.iterAt hit (pos+(Utf8.decode s pos).2)
   have hit2:=Lib.iterAt_heap wr W1.heap.size s pos (pos+(Utf8.decode s pos).2) hit
   have hbw2:=Lib.below_iterAt hbw (k:=W1.heap.size) (by omega) s (pos+(Utf8.decode s pos).2)
   have hsz2:w.heap.size≤(wr.iterAt W1.heap.size s (pos+(Utf8.decode s pos).2)).heap.size:=by rw[Lib.iterAt_size]; omega
   by_cases h0:((Utf8.decode s pos).1:Int)=0
   ·have H0:Hid (((Utf8.decode s pos).1:Int)=0):=h0
    have h1:(((Utf8.decode s pos).1:Int)==0)=true:=beq_iff_eq.2 h0
    clear h0
    go_wp2_with (go_at_call 140; refine(Tryz.Builder_WriteRune_k w.heap.size w.heap.size _ 65533 (by omega) (by omega) _ hI2 (by rw[Lib.byteCells_length]; omega) hsz2).mono ?_)
    rintro e W2 ⟨rfl,h2,b2,k2⟩
    go_wp2
    go_roundw
    case rel=>
     refine⟨pos+(Utf8.decode s pos).2,acc++Lib.encodeRune 65533,?_,k2.iter hit2 (by omega),hbw2.trans b2,?_,?_,hwl⟩
     ·rw[Lib.byteCells_append,Lib.byteCells_encodeRune]; exact Or.inr h2
     ·rw[← HA.out,hst.out,if_pos H0.out,List.append_assoc]
     ·have hl4:=q47 65533
      rw[Lib.runeCells_length]at hl4
      simp only[List.length_append]; omega
    case measure=>
     simp only[World.iterPos,k2.iter hit2 (by omega),hit]
     omega
   ·have H0:Hid (¬((Utf8.decode s pos).1:Int)=0):=h0
    have h1:(((Utf8.decode s pos).1:Int)==0)=false:=beq_eq_false_iff_ne.2 h0
    clear h0
    go_wp2_with (go_at_call 140; refine(Tryz.Builder_WriteRune_k w.heap.size w.heap.size _ _ (by omega) (by omega) _ hI2 (by rw[Lib.byteCells_length]; omega) hsz2).mono ?_)
    rintro e W2 ⟨rfl,h2,b2,k2⟩
    go_wp2
    go_roundw
    case rel=>
     refine⟨pos+(Utf8.decode s pos).2,acc++Lib.encodeRune ((Utf8.decode s pos).1:Int),?_,k2.iter hit2 (by omega),hbw2.trans b2,?_,?_,hwl⟩
     ·rw[Lib.byteCells_append,Lib.byteCells_encodeRune]; exact Or.inr h2
     ·rw[← HA.out,hst.out,if_neg H0.out,List.append_assoc]
     ·have hl4:=q47 ((Utf8.decode s pos).1:Int)
      rw[Lib.runeCells_length]at hl4
      simp only[List.length_append]; omega
    case measure=>
     simp only[World.iterPos,k2.iter hit2 (by omega),hit]
     omega
  ·have hnx:∀ ty,(Instr.next (.pointer (some ⟨W1.heap.size,0,none⟩)) true ty).run Tryz.prog wr=_:=fun ty=>Lib.run_next_end_at wr W1.heap.size s pos ty hit hp
   go_wp2_with (go_at_call 61; refine(Tryz.Builder_String_any_k w.heap.size w.heap.size acc _ hI (by omega)).mono ?_)
   rintro e W2 ⟨rfl,_,b2,_⟩
   go_wp2
   go_ret
   have e:=HA.out
   rw[Pl.qrb s pos hp,Pl.q2f,List.append_nil]at e
   exact⟨qe0 (by rw[← e]),hbw.trans b2⟩
end Go.Proofs.YtfkhljmiehdgmaaGreatDoor
namespace Go.Proofs.YtfkhljmiehdgmaaGreatDoor.Pl
def qgj (kd:Int) (b:UInt8):List UInt8:=
 bif kd==3 then[37]++two b qzw else bif kd==4 then[92,120]++two b qfl else bif kd==5 then 92::(qkb (two b qfl)++[32]) else[]
theorem q7d (b:UInt8):qgj 3 b=[37]++two b qzw:=rfl
theorem q7c (b:UInt8):qgj 4 b=[92,120]++two b qfl:=rfl
theorem q7b (b:UInt8):qgj 5 b=92::(qkb (two b qfl)++[32]):=rfl
theorem q7j (b:UInt8) (h1:b.toNat / 16<16) (h2:b.toNat % 16<16):two b qzw=[(ByteArray.mk #[48,49,50,51,52,53,54,55,56,57,65,66,67,68,69,70])[b.toNat / 16]'h1,(ByteArray.mk #[48,49,50,51,52,53,54,55,56,57,65,66,67,68,69,70])[b.toNat % 16]'h2]:=
 q4y b ⟨#[48,49,50,51,52,53,54,55,56,57,65,66,67,68,69,70]⟩ h1 h2
theorem q4x (b:UInt8) (h1:b.toNat / 16<16) (h2:b.toNat % 16<16):two b qfl=[(ByteArray.mk #[48,49,50,51,52,53,54,55,56,57,97,98,99,100,101,102])[b.toNat / 16]'h1,(ByteArray.mk #[48,49,50,51,52,53,54,55,56,57,97,98,99,100,101,102])[b.toNat % 16]'h2]:=
 q4y b ⟨#[48,49,50,51,52,53,54,55,56,57,97,98,99,100,101,102]⟩ h1 h2
theorem q5k (b:UInt8) (h:16≤b.toNat):qkb (two b qfl)=two b qfl:=by
 have hh:(!(decide (16≤b.toNat)) || (qkb (two b qfl)==two b qfl))=true:=qol (fun b=>!(decide (16≤b.toNat)) || (qkb (two b qfl)==two b qfl)) (by decide +kernel) b
 simpa [h] using hh
theorem q5j (b:UInt8) (h:b.toNat<16):qkb (two b qfl)=[(two b qfl).getD 1 0]:=by
 have hh:(!(decide (b.toNat<16)) || (qkb (two b qfl)==[(two b qfl).getD 1 0]))=true:=qol (fun b=>!(decide (b.toNat<16)) || (qkb (two b qfl)==[(two b qfl).getD 1 0])) (by decide +kernel) b
 simpa [h] using hh
theorem qzf (kd:Int) (b:UInt8):(qgj kd b).length≤6:=by
 have:(qkb (two b qfl)).length≤2:=by
  unfold qkb
  apply qi6<;>simp[two]
 have h3:(92::(qkb (two b qfl)++[32])).length≤6:=by
  rw[List.length_cons,List.length_append,List.length_singleton]; omega
 unfold qgj
 repeat' apply qi6
 ·simp[two]
 ·simp[two]
 ·exact h3
 ·simp
end Go.Proofs.YtfkhljmiehdgmaaGreatDoor.Pl
namespace Go.Proofs.YtfkhljmiehdgmaaGreatDoor
open Go.RowKit
theorem qi7 (acc x y:List UInt8):Lib.byteCells acc++Lib.byteCells x++Lib.byteCells y=Lib.byteCells (acc++(x++y)):=by
 rw[Lib.byteCells_append,Lib.byteCells_append,List.append_assoc]
set_option maxRecDepth 100000 in
set_option maxHeartbeats 3200000 in
theorem qmi (B bl:Nat) (acc:List UInt8) (b:UInt8) (w:World) (ht:Tabs w) (hB:9<B) (hI:Lib.IsBuilderF 153 5 B bl (Lib.byteCells acc) w) (hl:acc.length≤1000000000) (hBw:B≤w.heap.size) :
  Calls Tryz.prog 144 #[.pointer (some ⟨bl,0,none⟩),.int .i64 3,.int .u8 b.toNat] w fun e w'=>e=.returned (.tuple #[])∧Lib.IsBuilderF 153 5 B bl (Lib.byteCells (acc++Pl.qgj 3 b)) w'∧Below B w w':=by
 have hb:b.toNat<256:=UInt8.toNat_lt b
 have c3:w.cell? ⟨9,24,none⟩=some (.string ⟨#[37]⟩):=ht.2.2 24 _ rfl
 have c4:w.cell? ⟨9,25,none⟩=some (.string ⟨#[48,49,50,51,52,53,54,55,56,57,65,66,67,68,69,70]⟩):=ht.2.2 25 _ rfl
 have HT:Hid (Pl.two b _=_):=Pl.q7j b (by omega) (by omega)
 go_enter Tryz.func144,Tryz.ntmps144
 go_wp2_with fail
 refine(Tryz.Builder_WriteString_k B bl _ ⟨#[37]⟩ _ hI (by rw[Lib.byteCells_length]; show _+1≤_; omega) hBw).mono ?_
 rintro e w1 ⟨rfl,h1,b1,_⟩
 have ht1:=ht.kept b1 hB
 have z1:=b1.size
 have c5:w1.cell? ⟨9,26,none⟩=some (.bool false):=ht1.2.2 26 _ rfl
 have HL1:Hid ((Lib.byteCells acc++Lib.strCells ⟨#[37]⟩).length=acc.length+1):=by show _=_; simp[Lib.byteCells_length,Lib.strCells]
 by_cases hq:16≤b.toNat
 ·go_wp2_with fail
  refine(Tryz.Builder_WriteByte_k B bl _ _ _ (Or.inr h1) (by rw[HL1.out]; omega) (by omega)).mono ?_
  rintro e w2 ⟨rfl,h2,b2,_⟩
  have z2:=b2.size
  go_wp2_with fail
  refine(Tryz.Builder_WriteByte_k B bl _ _ _ (Or.inr h2) (by rw[List.length_append,HL1.out]; simp; omega) (by omega)).mono ?_
  rintro e w3 ⟨rfl,h3,b3,_⟩
  have z3:=b3.size
  have ht3:=(ht1.kept b2 hB).kept b3 hB
  have c6:w3.cell? ⟨9,27,none⟩=some (.string ⟨#[]⟩):=ht3.2.2 27 _ rfl
  go_wp2_with fail
  refine(Tryz.Builder_WriteString_k B bl _ ⟨#[]⟩ _ (Or.inr h3) (by simp only[List.length_append,HL1.out]; show _+0≤_; simp; omega) (by omega)).mono ?_
  rintro e w4 ⟨rfl,h4,b4,_⟩
  go_wp2_with fail
  go_end0
  refine⟨rfl,?_,((b1.trans b2).trans b3).trans b4⟩
  rw[Pl.q7d,HT.out,← List.append_nil [_,_],← qi7]
  exact Or.inr (by simpa [Lib.byteCells,Lib.strCells] using h4)
 ·go_wp2_with fail
  refine(Tryz.Builder_WriteByte_k B bl _ _ _ (Or.inr h1) (by rw[HL1.out]; omega) (by omega)).mono ?_
  rintro e w2 ⟨rfl,h2,b2,_⟩
  have z2:=b2.size
  go_wp2_with fail
  refine(Tryz.Builder_WriteByte_k B bl _ _ _ (Or.inr h2) (by rw[List.length_append,HL1.out]; simp; omega) (by omega)).mono ?_
  rintro e w3 ⟨rfl,h3,b3,_⟩
  have z3:=b3.size
  have ht3:=(ht1.kept b2 hB).kept b3 hB
  have c6:w3.cell? ⟨9,27,none⟩=some (.string ⟨#[]⟩):=ht3.2.2 27 _ rfl
  go_wp2_with fail
  refine(Tryz.Builder_WriteString_k B bl _ ⟨#[]⟩ _ (Or.inr h3) (by simp only[List.length_append,HL1.out]; show _+0≤_; simp; omega) (by omega)).mono ?_
  rintro e w4 ⟨rfl,h4,b4,_⟩
  go_wp2_with fail
  go_end0
  refine⟨rfl,?_,((b1.trans b2).trans b3).trans b4⟩
  rw[Pl.q7d,HT.out,← List.append_nil [_,_],← qi7]
  exact Or.inr (by simpa [Lib.byteCells,Lib.strCells] using h4)
set_option maxRecDepth 100000 in
set_option maxHeartbeats 3200000 in
theorem qoq (B bl:Nat) (acc:List UInt8) (b:UInt8) (w:World) (ht:Tabs w) (hB:9<B) (hI:Lib.IsBuilderF 153 5 B bl (Lib.byteCells acc) w) (hl:acc.length≤1000000000) (hBw:B≤w.heap.size) :
  Calls Tryz.prog 144 #[.pointer (some ⟨bl,0,none⟩),.int .i64 4,.int .u8 b.toNat] w fun e w'=>e=.returned (.tuple #[])∧Lib.IsBuilderF 153 5 B bl (Lib.byteCells (acc++Pl.qgj 4 b)) w'∧Below B w w':=by
 have hb:b.toNat<256:=UInt8.toNat_lt b
 have c3:w.cell? ⟨9,31,none⟩=some (.string ⟨#[92,120]⟩):=ht.2.2 31 _ rfl
 have c4:w.cell? ⟨9,32,none⟩=some (.string ⟨#[48,49,50,51,52,53,54,55,56,57,97,98,99,100,101,102]⟩):=ht.2.2 32 _ rfl
 have HT:Hid (Pl.two b _=_):=Pl.q4x b (by omega) (by omega)
 go_enter Tryz.func144,Tryz.ntmps144
 go_wp2_with fail
 refine(Tryz.Builder_WriteString_k B bl _ ⟨#[92,120]⟩ _ hI (by rw[Lib.byteCells_length]; show _+2≤_; omega) hBw).mono ?_
 rintro e w1 ⟨rfl,h1,b1,_⟩
 have ht1:=ht.kept b1 hB
 have z1:=b1.size
 have c5:w1.cell? ⟨9,33,none⟩=some (.bool false):=ht1.2.2 33 _ rfl
 have HL1:Hid ((Lib.byteCells acc++Lib.strCells ⟨#[92,120]⟩).length=acc.length+2):=by show _=_; simp[Lib.byteCells_length,Lib.strCells]
 by_cases hq:16≤b.toNat
 ·go_wp2_with fail
  refine(Tryz.Builder_WriteByte_k B bl _ _ _ (Or.inr h1) (by rw[HL1.out]; omega) (by omega)).mono ?_
  rintro e w2 ⟨rfl,h2,b2,_⟩
  have z2:=b2.size
  go_wp2_with fail
  refine(Tryz.Builder_WriteByte_k B bl _ _ _ (Or.inr h2) (by rw[List.length_append,HL1.out]; simp; omega) (by omega)).mono ?_
  rintro e w3 ⟨rfl,h3,b3,_⟩
  have z3:=b3.size
  have ht3:=(ht1.kept b2 hB).kept b3 hB
  have c6:w3.cell? ⟨9,34,none⟩=some (.string ⟨#[]⟩):=ht3.2.2 34 _ rfl
  go_wp2_with fail
  refine(Tryz.Builder_WriteString_k B bl _ ⟨#[]⟩ _ (Or.inr h3) (by simp only[List.length_append,HL1.out]; show _+0≤_; simp; omega) (by omega)).mono ?_
  rintro e w4 ⟨rfl,h4,b4,_⟩
  go_wp2_with fail
  go_end0
  refine⟨rfl,?_,((b1.trans b2).trans b3).trans b4⟩
  rw[Pl.q7c,HT.out,← List.append_nil [_,_],← qi7]
  exact Or.inr (by simpa [Lib.byteCells,Lib.strCells] using h4)
 ·go_wp2_with fail
  refine(Tryz.Builder_WriteByte_k B bl _ _ _ (Or.inr h1) (by rw[HL1.out]; omega) (by omega)).mono ?_
  rintro e w2 ⟨rfl,h2,b2,_⟩
  have z2:=b2.size
  go_wp2_with fail
  refine(Tryz.Builder_WriteByte_k B bl _ _ _ (Or.inr h2) (by rw[List.length_append,HL1.out]; simp; omega) (by omega)).mono ?_
  rintro e w3 ⟨rfl,h3,b3,_⟩
  have z3:=b3.size
  have ht3:=(ht1.kept b2 hB).kept b3 hB
  have c6:w3.cell? ⟨9,34,none⟩=some (.string ⟨#[]⟩):=ht3.2.2 34 _ rfl
  go_wp2_with fail
  refine(Tryz.Builder_WriteString_k B bl _ ⟨#[]⟩ _ (Or.inr h3) (by simp only[List.length_append,HL1.out]; show _+0≤_; simp; omega) (by omega)).mono ?_
  rintro e w4 ⟨rfl,h4,b4,_⟩
  go_wp2_with fail
  go_end0
  refine⟨rfl,?_,((b1.trans b2).trans b3).trans b4⟩
  rw[Pl.q7c,HT.out,← List.append_nil [_,_],← qi7]
  exact Or.inr (by simpa [Lib.byteCells,Lib.strCells] using h4)
set_option maxRecDepth 100000 in
set_option maxHeartbeats 3200000 in
theorem qor (B bl:Nat) (acc:List UInt8) (b:UInt8) (w:World) (ht:Tabs w) (hB:9<B) (hI:Lib.IsBuilderF 153 5 B bl (Lib.byteCells acc) w) (hl:acc.length≤1000000000) (hBw:B≤w.heap.size) :
  Calls Tryz.prog 144 #[.pointer (some ⟨bl,0,none⟩),.int .i64 5,.int .u8 b.toNat] w fun e w'=>e=.returned (.tuple #[])∧Lib.IsBuilderF 153 5 B bl (Lib.byteCells (acc++Pl.qgj 5 b)) w'∧Below B w w':=by
 have hb:b.toNat<256:=UInt8.toNat_lt b
 have c3:w.cell? ⟨9,38,none⟩=some (.string ⟨#[92]⟩):=ht.2.2 38 _ rfl
 have c4:w.cell? ⟨9,39,none⟩=some (.string ⟨#[48,49,50,51,52,53,54,55,56,57,97,98,99,100,101,102]⟩):=ht.2.2 39 _ rfl
 have HT:Hid (Pl.two b _=_):=Pl.q4x b (by omega) (by omega)
 go_enter Tryz.func144,Tryz.ntmps144
 go_wp2_with fail
 refine(Tryz.Builder_WriteString_k B bl _ ⟨#[92]⟩ _ hI (by rw[Lib.byteCells_length]; show _+1≤_; omega) hBw).mono ?_
 rintro e w1 ⟨rfl,h1,b1,_⟩
 have ht1:=ht.kept b1 hB
 have z1:=b1.size
 have c5:w1.cell? ⟨9,40,none⟩=some (.bool true):=ht1.2.2 40 _ rfl
 have HL1:Hid ((Lib.byteCells acc++Lib.strCells ⟨#[92]⟩).length=acc.length+1):=by show _=_; simp[Lib.byteCells_length,Lib.strCells]
 by_cases hq:16≤b.toNat
 ·have HC:Hid (Pl.qgj 5 b=92::(Pl.two b Pl.qfl++[32])):=by show _=_; rw[Pl.q7b,Pl.q5k b hq]
  go_wp2_with fail
  refine(Tryz.Builder_WriteByte_k B bl _ _ _ (Or.inr h1) (by rw[HL1.out]; omega) (by omega)).mono ?_
  rintro e w2 ⟨rfl,h2,b2,_⟩
  have z2:=b2.size
  go_wp2_with fail
  refine(Tryz.Builder_WriteByte_k B bl _ _ _ (Or.inr h2) (by rw[List.length_append,HL1.out]; simp; omega) (by omega)).mono ?_
  rintro e w3 ⟨rfl,h3,b3,_⟩
  have z3:=b3.size
  have ht3:=(ht1.kept b2 hB).kept b3 hB
  have c6:w3.cell? ⟨9,41,none⟩=some (.string ⟨#[32]⟩):=ht3.2.2 41 _ rfl
  go_wp2_with fail
  refine(Tryz.Builder_WriteString_k B bl _ ⟨#[32]⟩ _ (Or.inr h3) (by simp only[List.length_append,HL1.out]; show _+1≤_; simp; omega) (by omega)).mono ?_
  rintro e w4 ⟨rfl,h4,b4,_⟩
  go_wp2_with fail
  go_end0
  refine⟨rfl,?_,((b1.trans b2).trans b3).trans b4⟩
  rw[HC.out,HT.out]
  exact Or.inr (by simpa [Lib.byteCells,Lib.strCells] using h4)
 ·have HC:Hid (Pl.qgj 5 b=92::([(Pl.two b Pl.qfl).getD 1 0]++[32])):=by show _=_; rw[Pl.q7b,Pl.q5j b (by omega)]
  go_wp2_with fail
  refine(Tryz.Builder_WriteByte_k B bl _ _ _ (Or.inr h1) (by rw[HL1.out]; omega) (by omega)).mono ?_
  rintro e w3 ⟨rfl,h3,b3,_⟩
  have z3:=b3.size
  have ht3:=ht1.kept b3 hB
  have c6:w3.cell? ⟨9,41,none⟩=some (.string ⟨#[32]⟩):=ht3.2.2 41 _ rfl
  go_wp2_with fail
  refine(Tryz.Builder_WriteString_k B bl _ ⟨#[32]⟩ _ (Or.inr h3) (by simp only[List.length_append,HL1.out]; show _+1≤_; simp; omega) (by omega)).mono ?_
  rintro e w4 ⟨rfl,h4,b4,_⟩
  go_wp2_with fail
  go_end0
  refine⟨rfl,?_,(b1.trans b3).trans b4⟩
  rw[HC.out,HT.out]
  exact Or.inr (by simpa [Lib.byteCells,Lib.strCells] using h4)
end Go.Proofs.YtfkhljmiehdgmaaGreatDoor
namespace Go.Proofs.YtfkhljmiehdgmaaGreatDoor.Pl
def qfn (kd:Int) (l:List UInt8):List UInt8:=
 bif kd==1 then qic l else bif kd==3 then qik l else bif kd==4 then qdy l else qr8 l
theorem q67 (kd:Int):qfn kd []=[]:=by
 unfold qfn
 cases kd==1<;>cases kd==3<;>cases kd==4<;>rfl
theorem q1v (kd:Int) (l:List UInt8) (h1:kd≠1) (h4:kd≠4):qd6 kd l=([],[]):=by
 have e1:((1:Int)==kd)=false:=beq_eq_false_iff_ne.2 (by omega)
 have e4:((4:Int)==kd)=false:=beq_eq_false_iff_ne.2 (by omega)
 simp[qd6,qbk,fits,List.find?,e1,e4]
theorem q7n (b:UInt8) (l:List UInt8):qd6 1 (b::l)=if b=38 then([38],[38,97,109,112,59]) else if b=60 then([60],[38,108,116,59]) else if b=62 then([62],[38,103,116,59]) else if b=34 then([34],[38,113,117,111,116,59]) else if b=39 then([39],[38,35,51,57,59]) else([],[]):=by
 have e:∀ x:UInt8,List.isPrefixOf [x] (b::l)=(x==b):=by intro x; simp[List.isPrefixOf]
 have f:∀ x:UInt8,(x==b)=decide (b=x):=by
  intro x; rw[Bool.eq_iff_iff,beq_iff_eq,decide_eq_true_eq]; exact eq_comm
 have e4:((4:Int)==1)=false:=rfl
 unfold qd6 qbk fits
 simp only[List.find?,e,e4,f,Bool.false_and,beq_self_eq_true,Bool.true_and]
 by_cases h1:b=38
 ·simp[h1]
 by_cases h2:b=60
 ·simp[h2]
 by_cases h3:b=62
 ·simp[h3]
 by_cases h5:b=34
 ·simp[h5]
 by_cases h6:b=39
 ·simp[h6]
 simp[h1,h2,h3,h5,h6]
theorem qr1 (b:UInt8):qmv b=if b=38 then[38,97,109,112,59] else if b=60 then[38,108,116,59] else if b=62 then[38,103,116,59] else if b=34 then[38,113,117,111,116,59] else if b=39 then[38,35,51,57,59] else[b]:=by
 have:=qol (fun b=>decide (qmv b=if b=38 then[38,97,109,112,59] else if b=60 then[38,108,116,59] else if b=62 then[38,103,116,59] else if b=34 then[38,113,117,111,116,59] else if b=39 then[38,35,51,57,59] else[b])) (by decide +kernel) b
 simpa using this
theorem qng:∀(p l:List UInt8),List.isPrefixOf p l=decide (l.take p.length=p)
 | [],l=>by simp
 | a::p,[]=>by simp
 | a::p,b::l=>by
   have ih:=qng p l
   rw[List.isPrefixOf,ih,Bool.eq_iff_iff]
   simp only[Bool.and_eq_true,beq_iff_eq,decide_eq_true_eq,List.length_cons,List.take_succ_cons,List.cons.injEq]
   constructor
   ·rintro⟨h,h'⟩; exact⟨h.symm,h'⟩
   ·rintro⟨h,h'⟩; exact⟨h.symm,h'⟩
theorem q7m (l:List UInt8):qd6 4 l=if l.take 3=[226,128,168] then([226,128,168],[92,117,50,48,50,56]) else if l.take 3=[226,128,169] then([226,128,169],[92,117,50,48,50,57]) else([],[]):=by
 have e1:((1:Int)==4)=false:=rfl
 unfold qd6 qbk fits
 simp only[List.find?,e1,qng,Bool.false_and,beq_self_eq_true,Bool.true_and,List.length_cons,List.length_nil]
 by_cases h1:l.take 3=[226,128,168]
 ·simp[h1]
 by_cases h2:l.take 3=[226,128,169]
 ·simp[h2]
 simp[h1,h2]
theorem esc4 (b:UInt8):(odd b || ((b.toNat:Int)==96))=qdh 4 b:=by
 have:=qol (fun b=>(odd b || ((b.toNat:Int)==96))==qdh 4 b) (by decide +kernel) b
 simpa using this
theorem q4h (kd:Int) (hk:kd=1∨kd=3∨kd=4∨kd=5) (l f t:List UInt8) (h:qd6 kd l=(f,t)) (hf:f≠[]) :
  qfn kd l=t++qfn kd (l.drop f.length)∧f.length≤l.length∧t.length≤6*f.length:=by
 rcases hk with rfl | rfl | rfl | rfl
 ·match l with
  | []=>
    have e:qd6 1 []=([],[]):=by decide
    rw[e]at h; cases h; exact absurd rfl hf
  | b::l=>
    rw[q7n]at h
    show qic (b::l)=t++qic _∧_
    have e:qic (b::l)=qmv b++qic l:=rfl
    rw[e,qr1]
    by_cases h1:b=38
    ·rw[if_pos h1]at h ⊢; cases h; exact⟨rfl,by simp,by simp⟩
    by_cases h2:b=60
    ·rw[if_neg h1,if_pos h2]at h ⊢; cases h; exact⟨rfl,by simp,by simp⟩
    by_cases h3:b=62
    ·rw[if_neg h1,if_neg h2,if_pos h3]at h ⊢; cases h; exact⟨rfl,by simp,by simp⟩
    by_cases h4:b=34
    ·rw[if_neg h1,if_neg h2,if_neg h3,if_pos h4]at h ⊢; cases h; exact⟨rfl,by simp,by simp⟩
    by_cases h5:b=39
    ·rw[if_neg h1,if_neg h2,if_neg h3,if_neg h4,if_pos h5]at h ⊢; cases h; exact⟨rfl,by simp,by simp⟩
    rw[if_neg h1,if_neg h2,if_neg h3,if_neg h4,if_neg h5]at h
    cases h; exact absurd rfl hf
 ·rw[q1v 3 l (by omega) (by omega)]at h; cases h; exact absurd rfl hf
 ·rw[q7m]at h
  show qdy l=t++qdy _∧_
  have key:∀ c d e:UInt8,l.take 3=[c,d,e]→∃ r,l=c::d::e::r:=by
   intro c d e q
   match l,q with
   | x::y::z::r,q=>
     simp only[List.take_succ_cons,List.take_zero,List.cons.injEq,and_true]at q
     obtain⟨rfl,rfl,rfl⟩:=q
     exact⟨r,rfl⟩
  by_cases h1:l.take 3=[226,128,168]
  ·rw[if_pos h1]at h; cases h
   obtain⟨r,rfl⟩:=key _ _ _ h1
   refine⟨?_,by simp,by simp⟩
   rw[qho,if_neg (by decide),if_pos (show List.take 3 (226::128::168::r)=[226,128,168] from rfl)]; rfl
  by_cases h2:l.take 3=[226,128,169]
  ·rw[if_neg h1,if_pos h2]at h; cases h
   obtain⟨r,rfl⟩:=key _ _ _ h2
   refine⟨?_,by simp,by simp⟩
   rw[qho,if_neg (by decide),if_neg (by simp),if_pos (show List.take 3 (226::128::169::r)=[226,128,169] from rfl)]; rfl
  rw[if_neg h1,if_neg h2]at h; cases h; exact absurd rfl hf
 ·rw[q1v 5 l (by omega) (by omega)]at h; cases h; exact absurd rfl hf
theorem q4i (kd:Int) (hk:kd=1∨kd=3∨kd=4∨kd=5) (b:UInt8) (l t:List UInt8) (h:qd6 kd (b::l)=([],t)) :
  qfn kd (b::l)=(if qdh kd b=true then qgj kd b else[b])++qfn kd l:=by
 rcases hk with rfl | rfl | rfl | rfl
 ·rw[q7n]at h
  show qic (b::l)=_++qic l
  rw[qty,if_neg (by simp)]
  have e:qic (b::l)=qmv b++qic l:=rfl
  rw[e,qr1]
  by_cases h1:b=38
  ·rw[if_pos h1]at h; cases h
  by_cases h2:b=60
  ·rw[if_neg h1,if_pos h2]at h; cases h
  by_cases h3:b=62
  ·rw[if_neg h1,if_neg h2,if_pos h3]at h; cases h
  by_cases h4:b=34
  ·rw[if_neg h1,if_neg h2,if_neg h3,if_pos h4]at h; cases h
  by_cases h5:b=39
  ·rw[if_neg h1,if_neg h2,if_neg h3,if_neg h4,if_pos h5]at h; cases h
  rw[if_neg h1,if_neg h2,if_neg h3,if_neg h4,if_neg h5]
 ·show qln b++qik l=_++qik l
  rw[qtx,q7d]
  by_cases h1:qa0 b qfv=true
  ·rw[qyu h1,h1,if_neg (by simp)]
  ·have h1:qa0 b qfv=false:=by simpa using h1
   rw[q1b h1,h1]; rfl
 ·show qdy (b::l)=_++qdy l
  rw[qho,esc4]
  by_cases h1:qdh 4 b=true
  ·rw[if_pos h1,if_pos h1,q7c]
  ·rw[q7m]at h
   by_cases h2:(b::l).take 3=[226,128,168]
   ·rw[if_pos h2]at h; cases h
   by_cases h3:(b::l).take 3=[226,128,169]
   ·rw[if_neg h2,if_pos h3]at h; cases h
   rw[if_neg h1,if_neg h1,if_neg h2,if_neg h3]
 ·show qmz b++qr8 l=_++qr8 l
  rw[show qdh 5 b=odd b from rfl,q7b]
  unfold qmz
  cases odd b<;>rfl
end Go.Proofs.YtfkhljmiehdgmaaGreatDoor.Pl
namespace Go.Proofs.YtfkhljmiehdgmaaGreatDoor
open Go.RowKit
theorem qnw (kd:Int) (hk:kd=1∨kd=3∨kd=4∨kd=5) (b:UInt8) (w:World) (ht:Tabs w) :
  Calls Tryz.prog 143 #[.int .i64 kd,.int .u8 b.toNat] w fun e w'=>e=.returned (.bool (Pl.qdh kd b))∧w=w':=by
 rcases hk with rfl | rfl | rfl | rfl
 ·exact qvv b w ht
 ·exact qq3 b w ht
 ·exact qs7 b w ht
 ·exact qs8 b w ht
theorem qp8 (kd:Int) (hk:kd=3∨kd=4∨kd=5) (B bl:Nat) (acc:List UInt8) (b:UInt8) (w:World) (ht:Tabs w) (hB:9<B) (hI:Lib.IsBuilderF 153 5 B bl (Lib.byteCells acc) w) (hl:acc.length≤1000000000) (hBw:B≤w.heap.size) :
  Calls Tryz.prog 144 #[.pointer (some ⟨bl,0,none⟩),.int .i64 kd,.int .u8 b.toNat] w fun e w'=>e=.returned (.tuple #[])∧Lib.IsBuilderF 153 5 B bl (Lib.byteCells (acc++Pl.qgj kd b)) w'∧Below B w w':=by
 rcases hk with rfl | rfl | rfl
 ·exact qmi B bl acc b w ht hB hI hl hBw
 ·exact qoq B bl acc b w ht hB hI hl hBw
 ·exact qor B bl acc b w ht hB hI hl hBw
theorem qrj {T e:TypeId} {B b:Nat} {bs:List Value} {w w':World} (h:Lib.IsBuilderF T e B b bs w) (hb:Below w.heap.size w w'):Lib.IsBuilderF T e B b bs w':=by
 have lt:∀ {k:Nat} {o:Obj},w.heap[k]?=some o→w'.heap[k]?=some o:=by
  intro k o hk
  rw[hb.block k (Array.getElem?_eq_some_iff.1 hk).1]; exact hk
 have one:∀ p,Lib.BuilderAtF T e B b p bs w→Lib.BuilderAtF T e B b p bs w':=by
  rintro p ⟨hB,v,hbk,⟨hlen,hown⟩,hne⟩
  refine⟨hB,v,lt hbk,⟨hlen,?_⟩,hne⟩
  rcases hown with h0 | ⟨g,cap,cur,fz,h1,h2,h3,h4⟩
  ·exact .inl h0
  ·exact .inr ⟨g,cap,cur,fz,h1,h2,lt h3,h4⟩
 rcases h with h | h
 ·exact .inl (one _ h)
 ·exact .inr (one _ h)
theorem qxu (kd:Int) (s:ByteArray) (k:Nat) (f t:List UInt8) (w:World) (ht:Tabs w) (h:Pl.qd6 kd (s.data.toList.drop k)=(f,t)) :
  Calls Tryz.prog 141 #[.int .i64 kd,.string (s.extract k s.size)] w fun e w'=>e=.returned (.tuple #[.string ⟨f.toArray⟩,.string ⟨t.toArray⟩])∧Below w.heap.size w w':=by
 have e:(s.extract k s.size).data.toList=s.data.toList.drop k:=by
  rw[ByteArray.data_extract,Array.toList_extract,List.extract_eq_take_drop]
  apply List.take_of_length_le
  rw[List.length_drop,Pl.qw3]; omega
 have:=qu1 kd (s.extract k s.size) w ht
 rw[e,h]at this
 exact this
set_option maxRecDepth 1000000 in
set_option maxHeartbeats 4000000 in
theorem qmh (kd:Int) (hk:kd=1∨kd=3∨kd=4∨kd=5) (s:ByteArray) (w:World) (ht:Tabs w) (hs:s.size≤100000000) :
  Calls Tryz.prog 100 #[.int .i64 kd,.string s] w fun e w'=>e=.returned (.string ⟨(Pl.qfn kd s.data.toList).toArray⟩)∧Below w.heap.size w w':=by
 have HK:Hid (kd=1∨kd=3∨kd=4∨kd=5):=hk
 clear hk
 have hB:=ht.lt
 go_enter Tryz.func100,Tryz.ntmps100
 go_wp2_with fail
 refine(Tryz.Builder_Grow_fresh w.heap.size w.heap.size s.size _ (Nat.le_refl _) (qpr w) (by simp) (by omega)).mono ?_
 rintro e W1 ⟨rfl,hB1,hbe⟩
 have hbw1:Below w.heap.size w W1:=((Below.refl _ w).alloc (Nat.le_refl _) _).trans hbe
 go_wp2
 go_loopw [6] (fun i wr=>∃(k:Nat) (acc:List UInt8),k≤s.size∧i=.int .i64 k∧Lib.IsBuilderF 153 5 w.heap.size w.heap.size (Lib.byteCells acc) wr∧Below w.heap.size w wr∧acc++Pl.qfn kd (s.data.toList.drop k)=Pl.qfn kd s.data.toList∧acc.length≤6*k) (fun i _=>s.size - (intOf i).toNat)
 case atStart=>exact⟨0,[],Nat.zero_le _,rfl,Lib.IsBuilderF.of (Or.inr hB1),hbw1,rfl,by simp⟩
 case round=>
  obtain⟨k,acc,hk,rfl,hI,hbw,hacc,hal⟩:=hrel
  have HA:Hid (acc++Pl.qfn kd (s.data.toList.drop k)=Pl.qfn kd s.data.toList):=hacc
  clear hacc
  have hz:=hbw.size
  have htr:=ht.kept hbw hB
  by_cases hlt:k<s.size
  ·obtain⟨f,t,hsw⟩:∃ f t,Pl.qd6 kd (s.data.toList.drop k)=(f,t):=⟨_,_,rfl⟩
   have HS:Hid (Pl.qd6 kd (s.data.toList.drop k)=(f,t)):=hsw
   clear hsw
   go_wp2_with fail
   refine(qxu kd s k f t _ htr HS.out).mono ?_
   rintro e w2 ⟨rfl,b2⟩
   have hI2:=qrj hI b2
   have hbw2:=hbw.trans (b2.mono hz)
   have hz2:=hbw2.size
   have ht2:=ht.kept hbw2 hB
   clear hI htr hbw b2
   match f,HS with
   | c::f,HS=>
     obtain⟨e1,e2,e3⟩:=Pl.q4h kd HK.out _ _ _ HS.out (by simp)
     have E1:Hid (acc++(t++Pl.qfn kd ((s.data.toList.drop k).drop (c::f).length))=Pl.qfn kd s.data.toList):=by show _=_; rw[← e1]; exact HA.out
     rw[List.length_drop,Pl.qw3]at e2
     clear e1
     simp only[List.length_cons]at e2 e3
     have hts:(ByteArray.mk t.toArray).size=t.length:=rfl
     go_wp2_with fail
     refine(Tryz.Builder_WriteString_k w.heap.size w.heap.size _ ⟨t.toArray⟩ _ hI2 (by rw[Lib.byteCells_length,hts]; omega) hz2).mono ?_
     rintro e w3 ⟨rfl,h3,b3,_⟩
     clear hts
     go_wp2_with fail
     go_roundw
     case rel=>
      refine⟨k+(f.length+1),acc++t,by omega,by go_num,?_,hbw2.trans b3,?_,by rw[List.length_append]; omega⟩
      ·rw[Lib.byteCells_append]; exact Or.inr h3
      ·rw[List.append_assoc,← E1.out,List.drop_drop]; rfl
     case measure=>simp[intOf]; omega
   | [],HS=>
     have HS2:Hid (Pl.qd6 kd (s[k]::s.data.toList.drop (k+1))=([],t)):=by show _=_; rw[← Pl.qh0 s k hlt]; exact HS.out
     have E1:Hid (acc++((if Pl.qdh kd s[k]=true then Pl.qgj kd s[k] else[s[k]])++Pl.qfn kd (s.data.toList.drop (k+1)))=Pl.qfn kd s.data.toList):=by
      show _=_; rw[← Pl.q4i kd HK.out _ _ _ HS2.out,← Pl.qh0 s k hlt]; exact HA.out
     by_cases hco:Pl.qdh kd s[k]=true
     ·have E2:Hid (acc++(Pl.qgj kd s[k]++Pl.qfn kd (s.data.toList.drop (k+1)))=Pl.qfn kd s.data.toList):=by
       show _=_; rw[← E1.out,if_pos hco]
      have hk3:kd=3∨kd=4∨kd=5:=by
       rcases HK.out with rfl | h | h | h
       ·rw[Pl.qty]at hco; cases hco
       ·exact .inl h
       ·exact .inr (.inl h)
       ·exact .inr (.inr h)
      have HK3:Hid (kd=3∨kd=4∨kd=5):=hk3
      have hcl:=Pl.qzf kd s[k]
      clear hk3
      go_wp2_with fail
      refine(qnw kd HK.out s[k] _ ht2).mono ?_
      rintro e w' ⟨rfl,rfl⟩
      go_wp2_with fail
      refine(qp8 kd HK3.out w.heap.size w.heap.size acc s[k] _ ht2 hB hI2 (by omega) hz2).mono ?_
      rintro e w3 ⟨rfl,h3,b3⟩
      go_wp2_with fail
      go_roundw
      case rel=>
       refine⟨k+1,acc++Pl.qgj kd s[k],by omega,by go_num,h3,hbw2.trans b3,?_,by rw[List.length_append]; omega⟩
       rw[List.append_assoc]; exact E2.out
      case measure=>simp[intOf]; omega
     ·have hco:Pl.qdh kd s[k]=false:=Bool.eq_false_iff.2 hco
      have E2:Hid (acc++([s[k]]++Pl.qfn kd (s.data.toList.drop (k+1)))=Pl.qfn kd s.data.toList):=by
       show _=_; rw[← E1.out,if_neg (by simp[hco])]
      go_wp2_with fail
      refine(qnw kd HK.out s[k] _ ht2).mono ?_
      rintro e w' ⟨rfl,rfl⟩
      go_wp2_with fail
      refine(Tryz.Builder_WriteByte_k w.heap.size w.heap.size _ s[k].toNat _ hI2 (by rw[Lib.byteCells_length]; omega) hz2).mono ?_
      rintro e w3 ⟨rfl,h3,b3,_⟩
      go_wp2_with fail
      go_roundw
      case rel=>
       refine⟨k+1,acc++[s[k]],by omega,by go_num,?_,hbw2.trans b3,?_,by simp; omega⟩
       ·rw[qgk]; exact Or.inr h3
       ·rw[List.append_assoc]; exact E2.out
      case measure=>simp[intOf]; omega
  ·have e0:Hid (acc=Pl.qfn kd s.data.toList):=by
    have:=HA.out
    rw[Pl.qrb s k hlt,Pl.q67,List.append_nil]at this
    exact this
   go_wp2_with fail
   refine(Tryz.Builder_String_any_k w.heap.size w.heap.size acc _ hI (by omega)).mono ?_
   rintro e W2 ⟨rfl,_,b2,_⟩
   go_wp2
   go_ret
   exact⟨qe0 (by rw[e0.out]),hbw.trans b2⟩
end Go.Proofs.YtfkhljmiehdgmaaGreatDoor
namespace Go.Proofs.YtfkhljmiehdgmaaGreatDoor.Pl
def qyh (p:List UInt8):Bool:=p==[104,116,116,112] || (p==[104,116,116,112,115] || p==[109,97,105,108,116,111])
theorem qx2 (c:List UInt8) (k:Nat) (h:qbz c=k+1):c[k]?=some 58:=by
 unfold qbz at h
 by_cases h0:run c false=0
 ·rw[if_pos h0]at h; omega
 rw[if_neg h0]at h
 by_cases h1:c[run c false]?=some 58
 ·rw[if_pos h1]at h
  have:run c false=k:=by omega
  rw[← this]; exact h1
 ·rw[if_neg h1]at h; omega
theorem qnn (c:List UInt8) (k:Nat) (h:qbz c=k+1):qeg (c.take (k+1))=qeg (c.take k)++[58]:=by
 have hc:=qx2 c k h
 have hk:=(List.getElem?_eq_some_iff.1 hc).1
 rw[List.take_succ_eq_append_getElem hk]
 have:c[k]=58:=by rw[List.getElem?_eq_getElem hk]at hc; exact Option.some.inj hc
 rw[this]
 unfold qeg
 rw[List.map_append]; rfl
theorem qza (c:List UInt8) (h:qbz c=0):qe5 c=qik c:=by
 unfold qe5; rw[h,if_neg (by omega)]; rfl
theorem qu6 (p q:List UInt8):(p++[58]=q++[58])↔p=q:=by
 constructor
 ·intro h; exact List.append_cancel_right h
 ·rintro rfl; rfl
theorem qy9 (c:List UInt8) (k:Nat) (h:qbz c=k+1) (ho:qyh (qeg (c.take k))=true):qe5 c=c.take (k+1)++qik (c.drop (k+1)):=by
 unfold qe5; rw[h,qnn c k h,if_neg]
 rintro⟨_,h1,h2,h3⟩
 simp only[qyh,Bool.or_eq_true,beq_iff_eq]at ho
 rcases ho with q | q | q
 ·exact h1 (by rw[q]; rfl)
 ·exact h2 (by rw[q]; rfl)
 ·exact h3 (by rw[q]; rfl)
theorem qq5 (c:List UInt8) (k:Nat) (h:qbz c=k+1) (ho:qyh (qeg (c.take k))=false):qe5 c=qrk:=by
 unfold qe5; rw[h,qnn c k h,if_pos]
 simp only[qyh,Bool.or_eq_false_iff,beq_eq_false_iff_ne]at ho
 refine⟨by omega,?_,?_,?_⟩
 ·rw[show http=[104,116,116,112]++[58] from rfl]; exact fun q=>ho.1 ((qu6 _ _).1 q)
 ·rw[show q76=[104,116,116,112,115]++[58] from rfl]; exact fun q=>ho.2.1 ((qu6 _ _).1 q)
 ·rw[show q49=[109,97,105,108,116,111]++[58] from rfl]; exact fun q=>ho.2.2 ((qu6 _ _).1 q)
theorem enc3 (l:List UInt8):qfn 3 l=qik l:=rfl
end Go.Proofs.YtfkhljmiehdgmaaGreatDoor.Pl
