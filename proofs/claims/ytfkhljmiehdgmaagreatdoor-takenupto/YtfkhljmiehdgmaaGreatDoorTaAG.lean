/-
  Steps of the proof (texts laid together, blanks left out): ReB, ReI, ReJ, ReL, TgD, ReC.
-/
import Derived.Shelf.Strings.BuilderK
import Derived.Lib.OthersKept
import Derived.RegionTactic
import Derived.BigRegion
import Derived.Test.YtfkhljmiehdgmaaGreatDoorTaAE
import Derived.BigQuiet
import Derived.Deep.QuietTactic
import Derived.Deep.RegionWith
import Derived.Deep.DeepCutAuto
import Derived.Test.YtfkhljmiehdgmaaGreatDoorTaAF
namespace Go.Proofs.YtfkhljmiehdgmaaGreatDoor
open Go.RowKit Go.Lib
structure WbAt (w:World) (B g:Nat) (a0 a1 a2 a3 a4 a7:Value) (l:List UInt8) (p v:Value):Prop where
 le:B≤g
 blk:w.heap[g]?=some (.cells #[a0,a1,a2,a3,a4,p,v,a7] 155 (0,0))
 own:w.ownsRowF B 5 1 v l.length (Lib.byteCells l)
 adr:p=.pointer none∨p=.pointer (some ⟨g,5,none⟩)
 nil:l=[]→v=.slice none 0 0
theorem WbAt.ne {w:World} {B g:Nat} {a0 a1 a2 a3 a4 a7:Value} {l:List UInt8} {p v:Value} (h:WbAt w B g a0 a1 a2 a3 a4 a7 l p v):v.ownBlock≠some g:=ownBlock_neF h.own h.blk (by decide)
theorem WbAt.cells {w:World} {B g:Nat} {a0 a1 a2 a3 a4 a7:Value} {l:List UInt8} {p v:Value} (h:WbAt w B g a0 a1 a2 a3 a4 a7 l p v):w.cell? ⟨g,5,none⟩=some p∧w.cell? ⟨g,6,none⟩=some v:=by
 have c:=qaa h.blk
 exact⟨c 5 _ rfl,c 6 _ rfl⟩
theorem WbAt.form {w:World} {B g:Nat} {a0 a1 a2 a3 a4 a7:Value} {l:List UInt8} {p v:Value} (h:WbAt w B g a0 a1 a2 a3 a4 a7 l p v):∃ ao cap,v=.slice ao l.length cap:=by
 rcases h.own.2 with ⟨hv,h0⟩ | ⟨k,cap,cur,fz,hv,_⟩
 ·exact⟨none,0,by rw[hv,h0]⟩
 ·exact⟨_,_,hv⟩
set_option maxRecDepth 100000 in
set_option maxHeartbeats 1600000 in
theorem q5i (w:World) (B g:Nat) (a0 a1 a2 a3 a4 a7:Value) (l:List UInt8) (p v:Value) (h:WbAt w B g a0 a1 a2 a3 a4 a7 l p v) :
  Calls Tryz.prog 188 #[.pointer (some ⟨g,5,none⟩)] w fun e w'=>e=.returned (.tuple #[])∧WbAt w' B g a0 a1 a2 a3 a4 a7 l (.pointer (some ⟨g,5,none⟩)) v∧Below B w w'∧OthersKept 5 (some g) w w':=by
 obtain⟨j,hj,hjs⟩:=Option.map_eq_some_iff.1 Tryz.Builder_X72_240.sizeBuilder
 have hj2:Tryz.prog.info? 153=some j:=hj
 have hlies:liesAt Tryz.prog Tryz.prog.depth 155 (8 / Tryz.prog.cellsOf 155) 5 153 1=true:=by kernel_rfl
 have hsh:w.shape? g=some (155,8):=by simp[World.shape?,h.blk]
 have hfz:w.frozen? ⟨g,5,none⟩=false:=by simp[World.frozen?,h.blk]
 have hc5:=h.cells.1
 rcases h.adr with hp | hp
 ·have hw2:WbAt (w.setCell ⟨g,5,none⟩ (.pointer (some ⟨g,5,none⟩))) B g a0 a1 a2 a3 a4 a7 l (.pointer (some ⟨g,5,none⟩)) v:=by
   refine⟨h.le,?_,h.own.kept (row:=some g) ⟨rfl,rfl,rfl,by simp[World.setCell],fun k _ hk=>Below.heap_setCell _ _ _ _ (fun e=>hk (by simp[e]))⟩ (Or.inr h.ne),.inr rfl,h.nil⟩
   exact heap_setCell_same _ _ _ _ _ _ h.blk
  have hb:Below B w (w.setCell ⟨g,5,none⟩ (.pointer (some ⟨g,5,none⟩))):=(Below.refl B w).setCell (p:=⟨g,5,none⟩) h.le _
  have hk:OthersKept 5 (some g) w (w.setCell ⟨g,5,none⟩ (.pointer (some ⟨g,5,none⟩))):=(OthersKept.refl _ _ w).setCell ⟨g,5,none⟩ rfl _
  have HR:Hid (WbAt (w.setCell ⟨g,5,none⟩ (.pointer (some ⟨g,5,none⟩))) B g a0 a1 a2 a3 a4 a7 l (.pointer (some ⟨g,5,none⟩)) v∧Below B w (w.setCell ⟨g,5,none⟩ (.pointer (some ⟨g,5,none⟩)))∧OthersKept 5 (some g) w (w.setCell ⟨g,5,none⟩ (.pointer (some ⟨g,5,none⟩)))):=⟨hw2,hb,hk⟩
  subst hp
  clear h hw2 hb hk
  go_enter Tryz.func188,Tryz.ntmps188
  go_wp2
  rw[Lib.run_to_unsafe w ⟨g,5,none⟩ Tryz.underlying151 Tryz.underlying328 hj2 (by rw[hjs]; decide) hsh (show (5:Nat)<8 by decide)]
  simp only[Result.andThen]
  rw[Oper.upon_value]
  go_wp2
  rw[run_callFunc_extern Tryz.func221 (by kernel_rfl) (by kernel_rfl) (by kernel_rfl) (e:=Extern.AbiNoEscape.same) (by kernel_rfl)]
  rw[Lib.run_noEscape]
  simp only[Result.andThen]
  rw[Oper.upon_value]
  go_wp2
  rw[Lib.run_from_unsafe w ⟨g,5,none⟩ Tryz.underlying328 Tryz.underlying151 hj2 hsh hlies]
  simp only[Result.andThen]
  rw[Oper.upon_value]
  go_wp2
  go_end0
  exact⟨rfl,HR.out⟩
 ·subst hp
  have H:=(show Hid _ from h)
  clear h
  go_enter Tryz.func188,Tryz.ntmps188
  go_wp2
  rw[Lib.run_neq_ptr_same w _ Tryz.underlying151 hj2]
  go_wp2
  go_end0
  exact⟨rfl,H.out,Below.refl B _,OthersKept.refl _ _ _⟩
set_option maxRecDepth 100000 in
set_option maxHeartbeats 1600000 in
theorem q2t (w:World) (B g:Nat) (a0 a1 a2 a3 a4 a7:Value) (l:List UInt8) (p v:Value) (h:WbAt w B g a0 a1 a2 a3 a4 a7 l p v) :
  Calls Tryz.prog 174 #[.pointer (some ⟨g,5,none⟩)] w fun e w'=>e=.returned (.int .i64 l.length)∧w=w':=by
 obtain⟨ao,cap,rfl⟩:=h.form
 have c6:=h.cells.2
 clear h
 go_enter Tryz.func174,Tryz.ntmps174
 go_wp2
 go_ret
 exact⟨rfl,rfl⟩
theorem qj6 {P:Program} (w:World) {ops:Array Oper} {rest:List Oper} {o:Oper} {a:Act} {Q:Exit→Act→World→Prop}
  (hg:o.guard=none) (s x:Operand) (t u:TypeId) (ho:o.op=.call { callee:=.builtin .append,args:=#[s,x],argTypes:=#[t,u] }) (sv xv v':Value) (w':World) (hs:a.eval s=sv) (hx:a.eval x=xv)
  (hrun:(Builtin.append_ #[t,u] o.type #[sv,xv]).run P w=.ok v' w') (hK:wpList P ops Q rest (a.put o.dst v') w'):wpList P ops Q (o::rest) a w:=by
 refine wpList_plain hg fun K hK'=>?_
 unfold Oper.wp execOp
 simp only[ho,resolve,invoke,builtin,Sem.run_bind,Sem.run_pure,Result.andThen_ok,List.map_toArray,List.map_cons,List.map_nil,hs,hx,hrun]
 exact hK' _ _ hK
theorem q7i {w1:World} {B g:Nat} {a0 a1 a2 a3 a4 a7:Value} {l:List UInt8} {v:Value} (h1:WbAt w1 B g a0 a1 a2 a3 a4 a7 l (.pointer (some ⟨g,5,none⟩)) v) (s:ByteArray) (hlen:l.length+s.size≤140737488355328) :
  ∃ ao n' cap w2,(Builtin.append_ #[82,9] 82 #[v,.string s]).run Tryz.prog w1=.ok (.slice ao n' cap) w2∧w2.cell? ⟨g,5,none⟩=some (.pointer (some ⟨g,5,none⟩))∧w2.cell? ⟨g,6,none⟩=some v∧w2.frozen? ⟨g,6,none⟩=false ∧
    (∃ p' v',WbAt (w2.setCell ⟨g,6,none⟩ (.slice ao n' cap)) B g a0 a1 a2 a3 a4 a7 (l++s.data.toList) p' v')∧Below B w1 (w2.setCell ⟨g,6,none⟩ (.slice ao n' cap))∧OthersKept 5 (some g) w1 (w2.setCell ⟨g,6,none⟩ (.slice ao n' cap)):=by
 obtain⟨i0,hi,hz0,hz1,hz2⟩:=info_parts Tryz.Builder_Extra_166.infoByte
 have hsl:s.data.toList.length=s.size:=by simp
 have hg1:g<w1.heap.size:=(Array.getElem?_eq_some_iff.1 h1.blk).1
 have hBw:=h1.le
 obtain⟨v',w2,hr,hown',hgrow,hnil⟩:=run_append_own_stringF (P:=Tryz.prog) w1 B 82 9 82 5 i0 Tryz.underlying82 Tryz.underlying9 hi hz0 hz1 hz2 v l.length (Lib.byteCells l) h1.own s (by unfold maxLen; omega) hlen (by omega)
 have hb2:w2.heap[g]?=some (.cells #[a0,a1,a2,a3,a4,.pointer (some ⟨g,5,none⟩),v,a7] 155 (0,0)):=by
  rw[hgrow.block g hg1 (fun e=>h1.ne e.symm)]
  exact h1.blk
 have d5:w2.cell? ⟨g,5,none⟩=some (.pointer (some ⟨g,5,none⟩)):=qaa hb2 5 _ rfl
 have d6:w2.cell? ⟨g,6,none⟩=some v:=qaa hb2 6 _ rfl
 have f6:w2.frozen? ⟨g,6,none⟩=false:=by simp[World.frozen?,hb2]
 obtain⟨ao,n',cap,rfl⟩:∃ ao n' cap,v'=.slice ao n' cap:=by
  rcases hown'.2 with ⟨hv,_⟩ | ⟨k,cap,cur,fz,hv,_⟩
  ·exact⟨_,_,_,hv⟩
  ·exact⟨_,_,_,hv⟩
 have hne2:(Value.slice ao n' cap).ownBlock≠some g:=ownBlock_neF hown' hb2 (by decide)
 refine⟨ao,n',cap,w2,hr,d5,d6,f6,⟨.pointer (some ⟨g,5,none⟩),.slice ao n' cap,hBw,heap_setCell_same _ _ _ _ _ _ hb2,?_,.inr rfl,fun hl=>?_⟩,((Below.refl B w1).grown hgrow (by omega) (fun k hk=>(h1.own.lt k hk).1)).setCell (p:=⟨g,6,none⟩) hBw _,((OthersKept.refl _ _ w1).grown hgrow (Lib.ownsRowF_kind h1.own)).setCell ⟨g,6,none⟩ rfl _⟩
 ·have hx:w2.ownsRowF B 5 1 (.slice ao n' cap) (l++s.data.toList).length (Lib.byteCells (l++s.data.toList)):=by
   rw[List.length_append,hsl]
   have e:Lib.byteCells (l++s.data.toList)=Lib.byteCells l++Lib.strCells s:=by simp[Lib.byteCells,Lib.strCells]
   rw[e]
   exact hown'
  exact hx.kept (row:=some g) ⟨rfl,rfl,rfl,by simp[World.setCell],fun k _ hk=>Below.heap_setCell _ _ _ _ (fun e=>hk (by simp[e]))⟩ (Or.inr hne2)
 ·have h2:=List.append_eq_nil_iff.1 hl
  refine hnil.2 ⟨h1.nil h2.1,?_⟩
  rw[← hsl,h2.2]
  rfl
set_option maxRecDepth 100000 in
set_option maxHeartbeats 3200000 in
theorem qzu (w:World) (B g:Nat) (a0 a1 a2 a3 a4 a7:Value) (l:List UInt8) (p v:Value) (h:WbAt w B g a0 a1 a2 a3 a4 a7 l p v) (s:ByteArray) (hlen:l.length+s.size≤140737488355328) :
  Calls Tryz.prog 142 #[.pointer (some ⟨g,5,none⟩),.string s] w fun e w'=>e=.returned (.tuple #[.int .i64 s.size,.nilIface])∧(∃ p' v',WbAt w' B g a0 a1 a2 a3 a4 a7 (l++s.data.toList) p' v')∧Below B w w'∧OthersKept 5 (some g) w w':=by
 have HC:Hid (Calls Tryz.prog 188 #[.pointer (some ⟨g,5,none⟩)] w fun e w1=>e=.returned (.tuple #[])∧∃ ao n' cap w2,(Builtin.append_ #[82,9] 82 #[v,.string s]).run Tryz.prog w1=.ok (.slice ao n' cap) w2∧w2.cell? ⟨g,5,none⟩=some (.pointer (some ⟨g,5,none⟩))∧w2.cell? ⟨g,6,none⟩=some v∧w2.frozen? ⟨g,6,none⟩=false ∧
   w1.cell? ⟨g,6,none⟩=some v∧Hid ((∃ p' v',WbAt (w2.setCell ⟨g,6,none⟩ (.slice ao n' cap)) B g a0 a1 a2 a3 a4 a7 (l++s.data.toList) p' v')∧Below B w (w2.setCell ⟨g,6,none⟩ (.slice ao n' cap))∧OthersKept 5 (some g) w (w2.setCell ⟨g,6,none⟩ (.slice ao n' cap)))):=by
  refine(q5i w B g a0 a1 a2 a3 a4 a7 l p v h).mono ?_
  rintro e w1 ⟨he,h1,hb1,hk1⟩
  obtain⟨ao,n',cap,w2,hr,d5,d6,f6,hW,hB,hK⟩:=q7i h1 s hlen
  exact⟨he,ao,n',cap,w2,hr,d5,d6,f6,h1.cells.2,hW,hb1.trans (hB.mono (Nat.le_refl _)),hk1.trans hK⟩
 clear h hlen
 go_enter Tryz.func142,Tryz.ntmps142
 go_wp2_with (first
  | (go_at_call 188; refine Calls.mono HC.out ?_; rintro e w1 ⟨rfl,ao,n',cap,w2,hr,d5,d6,f6,c6,HR⟩)
  | (at_builtin; refine qj6 _ rfl _ _ 82 9 rfl _ _ _ w2 rfl rfl hr ?_))
 go_ret2
 exact⟨rfl,HR.out⟩
set_option maxRecDepth 100000 in
set_option maxHeartbeats 3200000 in
theorem qwk (w:World) (B g:Nat) (a0 a1 a2 a3 a4 a7:Value) (l:List UInt8) (p v:Value) (h:WbAt w B g a0 a1 a2 a3 a4 a7 l p v) :
  Calls Tryz.prog 61 #[.pointer (some ⟨g,5,none⟩)] w fun e w'=>e=.returned (.string ⟨l.toArray⟩)∧Below B w w'∧OthersKept 5 (some g) w w'∧w'.heap[g]?=w.heap[g]?:=by
 by_cases hl:l=[]
 ·have hv:=h.nil hl
  subst hl
  subst hv
  have c6:w.drew.cell? ⟨g,6,none⟩=some (.slice none 0 0):=h.cells.2
  have hUS:=fun(W:World) (q:Option Addr)=>Lib.run_unsafeString_none (P:=Tryz.prog) W 209 3 9 q
  have hSD:(Builtin.unsafeSliceData_ #[82] 209 #[.slice none 0 0]).run Tryz.prog w.drew=.ok (.pointer none) w.drew:=rfl
  clear h
  go_enter Tryz.func61,Tryz.ntmps61
  go_wp2
  go_region
  all_goals (go_wp2; go_ret; exact⟨rfl,Below.drew (Below.refl B w),(OthersKept.refl _ _ w).drew,rfl⟩)
 ·have hl0:l.length≠0:=by simpa using hl
  have hown:=h.own
  obtain⟨k,cap,cur,fz,rfl,hbg,hk,hfz,hnc,hcm,hcs,htake⟩:∃ k cap cur fz,v=.slice (some ⟨k,0,none⟩) l.length cap∧B≤k∧w.heap[k]?=some (.cells cur 5 fz)∧fz.2≤l.length*1∧l.length≤cap∧cap≤maxLen∧cur.size=cap*1∧cur.toList.take (l.length*1)=Lib.byteCells l:=by
   rcases hown.2 with ⟨_,hz⟩ | ⟨k,cap,cur,fz,hv,r⟩
   ·exact absurd hz hl0
   ·exact⟨k,cap,cur,fz,hv,r⟩
  have c6:w.drew.cell? ⟨g,6,none⟩=some (.slice (some ⟨k,0,none⟩) l.length cap):=h.cells.2
  have hkg:k≠g:=fun e=>h.ne (by rw[e]; rfl)
  have hSD:(Builtin.unsafeSliceData_ #[82] 209 #[.slice (some ⟨k,0,none⟩) l.length cap]).run Tryz.prog w.drew=.ok (.pointer (some ⟨k,0,none⟩)) w.drew:=
   Lib.run_unsafeSliceData_row _ _ _ _ _ _ (by omega)
  have hUS:(Builtin.unsafeString_ #[209,3] 9 #[.pointer (some ⟨k,0,none⟩),.int .i64 l.length]).run Tryz.prog w.drew=.ok (.string ⟨l.toArray⟩) (w.drew.freeze ⟨k,0,none⟩ l.length):=by
   refine Lib.run_unsafeString_row w.drew 209 3 9 5 Tryz.underlying209 (by kernel_rfl) k cur.size (by have hk':w.drew.heap[k]?=some (.cells cur 5 fz):=hk; simp[World.shape?,hk']) l hl (by omega) (by unfold maxLen at hcm; omega) ?_
   intro j x hx
   exact hown.cells (g:=k) rfl j (.int .u8 x.toNat) (by simp[Lib.byteCells,hx])
  have hgk:(w.drew.freeze ⟨k,0,none⟩ l.length).heap[g]?=w.heap[g]?:=by
   unfold World.freeze
   split
   ·rfl
   ·simp only[Array.getElem?_modify]
    rw[if_neg hkg]
    rfl
  have HR:Hid (Below B w (w.drew.freeze ⟨k,0,none⟩ l.length)∧OthersKept 5 (some g) w (w.drew.freeze ⟨k,0,none⟩ l.length)∧(w.drew.freeze ⟨k,0,none⟩ l.length).heap[g]?=w.heap[g]?):=⟨Lib.below_freeze (Below.drew (Below.refl B w)) (p:=⟨k,0,none⟩) hbg _,((Lib.OthersKept.refl _ _ w).drew).freeze ⟨k,0,none⟩ _ ⟨cur,fz,hk⟩,hgk⟩
  clear h hown hk hfz hnc hcm hcs htake hgk
  go_enter Tryz.func61,Tryz.ntmps61
  go_wp2
  go_region
  all_goals (go_wp2; go_ret; exact⟨rfl,HR.out⟩)
theorem WbAt.drew {w:World} {B g:Nat} {a0 a1 a2 a3 a4 a7:Value} {l:List UInt8} {p v:Value} (h:WbAt w B g a0 a1 a2 a3 a4 a7 l p v):WbAt w.drew B g a0 a1 a2 a3 a4 a7 l p v:=⟨h.le,h.blk,h.own,h.adr,h.nil⟩
theorem WbAt.all {w:World} {B g:Nat} {a0 a1 a2 a3 a4 a7:Value} {l:List UInt8} {p v:Value} (h:WbAt w B g a0 a1 a2 a3 a4 a7 l p v):w.cell? ⟨g,0,none⟩=some a0∧w.cell? ⟨g,1,none⟩=some a1∧w.cell? ⟨g,2,none⟩=some a2∧w.cell? ⟨g,3,none⟩=some a3∧w.cell? ⟨g,4,none⟩=some a4∧w.cell? ⟨g,7,none⟩=some a7∧∀ j,w.frozen? ⟨g,j,none⟩=false:=by
 have c:=qaa h.blk
 exact⟨c 0 _ rfl,c 1 _ rfl,c 2 _ rfl,c 3 _ rfl,c 4 _ rfl,c 7 _ rfl,fun j=>by simp[World.frozen?,h.blk]⟩
set_option maxRecDepth 100000 in
set_option maxHeartbeats 1600000 in
theorem q0b (w:World) (B g:Nat) (a0 a1 a2 a3 a7:Value) (l:List UInt8) (p v:Value) (h:WbAt w B g a0 a1 a2 a3 (.int .i64 5000) a7 l p v) :
  Calls Tryz.prog 124 #[.pointer (some ⟨g,0,none⟩)] w fun e w'=>e=.returned (.int .i64 5)∧w=w':=by
 obtain⟨_,_,_,_,c4,_,_⟩:=h.all
 clear h
 go_enter Tryz.func124,Tryz.ntmps124
 go_wp2_with fail
 go_ret
 exact⟨rfl,rfl⟩
set_option maxRecDepth 100000 in
set_option maxHeartbeats 1600000 in
theorem q5x (w:World) (B g n:Nat) (a0 a1 a2 a3 a7:Value) (l:List UInt8) (p v:Value) (hn:n<5000) (h:WbAt w B g a0 a1 a2 a3 (.int .i64 n) a7 l p v) :
  Calls Tryz.prog 124 #[.pointer (some ⟨g,0,none⟩)] w fun e w'=>e=.returned (.int .i64 0)∧WbAt w' B g a0 a1 a2 a3 (.int .i64 (n+1:Nat)) a7 l p v∧Below B w w'∧OthersKept 5 (some g) w w':=by
 obtain⟨_,_,_,_,c4,_,hf⟩:=h.all
 have f4:=hf 4
 have hne:¬(n:Int)=5000:=by omega
 have hw:IntKind.i64.wrap ((n:Int)+1)=(n:Int)+1:=by rw[IntKind.wrap_i64]; omega
 have hn2:(n:Int)+1≤5000:=by omega
 have HR:Hid (WbAt (w.setCell ⟨g,4,none⟩ (.int .i64 ((n:Int)+1))) B g a0 a1 a2 a3 (.int .i64 (n+1:Nat)) a7 l p v∧Below B w (w.setCell ⟨g,4,none⟩ (.int .i64 ((n:Int)+1)))∧OthersKept 5 (some g) w (w.setCell ⟨g,4,none⟩ (.int .i64 ((n:Int)+1)))):=by
  refine⟨⟨h.le,heap_setCell_same _ _ _ _ _ _ h.blk,h.own.kept (row:=some g) ⟨rfl,rfl,rfl,by simp[World.setCell],fun k _ hk=>Below.heap_setCell _ _ _ _ (fun e=>hk (by simp[e]))⟩ (Or.inr h.ne),h.adr,h.nil⟩,(Below.refl B w).setCell (p:=⟨g,4,none⟩) h.le _,(OthersKept.refl _ _ w).setCell ⟨g,4,none⟩ rfl _⟩
 clear h hf
 go_enter Tryz.func124,Tryz.ntmps124
 go_wp2_with fail
 go_ret
 exact⟨rfl,HR.out⟩
set_option maxRecDepth 100000 in
set_option maxHeartbeats 3200000 in
theorem qzr (w:World) (B g:Nat) (a0 a1 a3 a4 a7:Value) (rm:Int) (l:List UInt8) (p v:Value) (h:WbAt w B g a0 a1 (.int .i64 rm) a3 a4 a7 l p v) (s:ByteArray) (hlen:l.length+s.size≤140737488355328) (hr1:rm≤9223372036854775807) (hr:rm<0∨(l.length+s.size:Int)≤rm) :
  Calls Tryz.prog 125 #[.pointer (some ⟨g,0,none⟩),.string s] w fun e w'=>e=.returned (.int .i64 0)∧(∃ p' v',WbAt w' B g a0 a1 (.int .i64 rm) a3 a4 a7 (l++s.data.toList) p' v')∧Below B w w'∧OthersKept 5 (some g) w w':=by
 have H:=(show Hid _ from h)
 have HW:Hid (∀ m,Calls Tryz.prog 142 #[.pointer (some ⟨g,5,none⟩),.string s] (w.drewN m) fun e w'=>e=.returned (.tuple #[.int .i64 s.size,.nilIface])∧(∃ p' v',WbAt w' B g a0 a1 (.int .i64 rm) a3 a4 a7 (l++s.data.toList) p' v')∧Below B w w'∧OthersKept 5 (some g) w w'):=fun m=>by
  have h2:WbAt (w.drewN m) B g a0 a1 (.int .i64 rm) a3 a4 a7 l p v:=⟨h.le,h.blk,h.own,h.adr,h.nil⟩
  refine(qzu (w.drewN m) B g a0 a1 (.int .i64 rm) a3 a4 a7 l p v h2 s hlen).mono ?_
  rintro e w' ⟨he,hx,hb,hk⟩
  exact⟨he,hx,(qa3 (Below.refl B w) m).trans hb,fun k o ho h1 h2=>hk k o ho h1 h2⟩
 have HL:Hid (∀ m,Calls Tryz.prog 174 #[.pointer (some ⟨g,5,none⟩)] (w.drewN m) fun e w'=>e=.returned (.int .i64 l.length)∧w.drewN m=w'):=fun m=>by
  have h2:WbAt (w.drewN m) B g a0 a1 (.int .i64 rm) a3 a4 a7 l p v:=⟨h.le,h.blk,h.own,h.adr,h.nil⟩
  exact q2t (w.drewN m) B g a0 a1 (.int .i64 rm) a3 a4 a7 l p v h2
 obtain⟨_,_,c2,_,_,_,hf⟩:=h.all
 clear h hf
 by_cases hneg:rm<0
 ·have hd2:decide ((0:Int)≤rm)=false:=by rw[decide_eq_false_iff_not]; omega
  clear hr hneg
  go_enter Tryz.func125,Tryz.ntmps125
  go_wp2_with fail
  go_quiet (fail)
  go_wp2_with (go_at_call 142; refine Calls.mono (HW.out _) ?_; rintro e w' ⟨rfl,hR⟩)
  go_ret
  exact⟨rfl,hR⟩
 ·have hd2:decide ((0:Int)≤rm)=true:=by rw[decide_eq_true_iff]; omega
  have hr2:((l.length+s.size:Nat):Int)≤rm:=by rcases hr with h | h<;>omega
  have hs:IntKind.i64.wrap (rm - (l.length:Int))=rm - (l.length:Int):=by rw[IntKind.wrap_i64]; omega
  have hs2:decide (rm - (l.length:Int)<(s.size:Int))=false:=by rw[decide_eq_false_iff_not]; omega
  have hs3:¬(rm - (l.length:Int)<(s.size:Int)):=by omega
  clear hr hneg
  go_enter Tryz.func125,Tryz.ntmps125
  go_wp2_with fail
  go_quiet ((go_at_call 174; refine qk1 (HL.out _)))
  go_wp2_with (go_at_call 142; refine Calls.mono (HW.out _) ?_; rintro e w' ⟨rfl,hR⟩)
  go_ret
  exact⟨rfl,hR⟩
set_option maxRecDepth 100000 in
set_option maxHeartbeats 3200000 in
theorem qzq (w:World) (B g:Nat) (a0 a1 a3 a4 a7:Value) (rm q:Nat) (l:List UInt8) (p v:Value) (h:WbAt w B g a0 a1 (.int .i64 rm) a3 a4 a7 l p v) (s:ByteArray) (hlen:l.length+s.size≤140737488355328) (hr1:(rm:Int)≤9223372036854775807) (hq:l.length+q=rm) (hr:q<s.size) :
  Calls Tryz.prog 125 #[.pointer (some ⟨g,0,none⟩),.string s] w fun e w'=>e=.returned (.int .i64 6)∧(∃ p' v',WbAt w' B g a0 a1 (.int .i64 rm) a3 a4 a7 (l++s.data.toList.take q) p' v')∧Below B w w'∧OthersKept 5 (some g) w w':=by
 have hx:(s.extract 0 q).data.toList=s.data.toList.take q:=by
  rw[Lib.extract_eq]
  simp
 have HW:Hid (∀ m,Calls Tryz.prog 142 #[.pointer (some ⟨g,5,none⟩),.string (s.extract 0 q)] (w.drewN m) fun e w'=>e=.returned (.tuple #[.int .i64 (s.extract 0 q).size,.nilIface])∧(∃ p' v',WbAt w' B g a0 a1 (.int .i64 rm) a3 a4 a7 (l++s.data.toList.take q) p' v')∧Below B w w'∧OthersKept 5 (some g) w w'):=fun m=>by
  have h2:WbAt (w.drewN m) B g a0 a1 (.int .i64 rm) a3 a4 a7 l p v:=⟨h.le,h.blk,h.own,h.adr,h.nil⟩
  refine(qzu (w.drewN m) B g a0 a1 (.int .i64 rm) a3 a4 a7 l p v h2 (s.extract 0 q) (by simp; omega)).mono ?_
  rintro e w' ⟨he,hy,hb,hk⟩
  rw[hx]at hy
  exact⟨he,hy,(qa3 (Below.refl B w) m).trans hb,fun k o ho h1 h2=>hk k o ho h1 h2⟩
 have HL:Hid (∀ m,Calls Tryz.prog 174 #[.pointer (some ⟨g,5,none⟩)] (w.drewN m) fun e w'=>e=.returned (.int .i64 l.length)∧w.drewN m=w'):=fun m=>by
  have h2:WbAt (w.drewN m) B g a0 a1 (.int .i64 rm) a3 a4 a7 l p v:=⟨h.le,h.blk,h.own,h.adr,h.nil⟩
  exact q2t (w.drewN m) B g a0 a1 (.int .i64 rm) a3 a4 a7 l p v h2
 obtain⟨_,_,c2,_,_,_,_⟩:=h.all
 have c2':∀ m,(w.drewN m).cell? ⟨g,2,none⟩=some (.int .i64 rm):=fun m=>c2
 have hd2:decide ((0:Int)≤(rm:Int))=true:=by rw[decide_eq_true_iff]; omega
 have hs:IntKind.i64.wrap ((rm:Int) - (l.length:Int))=(rm:Int) - (l.length:Int):=by rw[IntKind.wrap_i64]; omega
 have hs2:decide ((rm:Int) - (l.length:Int)<(s.size:Int))=true:=by rw[decide_eq_true_iff]; omega
 have hs3:(rm:Int) - (l.length:Int)<(s.size:Int):=by omega
 have hs4:(rm:Int) - (l.length:Int)≤(s.size:Int):=by omega
 have hs5:(0:Int)≤(rm:Int) - (l.length:Int):=by omega
 have hs6:((rm:Int) - (l.length:Int)).toNat=q:=by omega
 clear hr h hx hlen hq hr1
 go_enter Tryz.func125,Tryz.ntmps125
 go_wp2_with fail
 go_quiet ((go_at_call 174; refine qk1 (HL.out _)))
 go_wp2_with fail
 go_region_with (first
  | (go_at_call 174; refine Calls.mono (HL.out _) ?_; rintro e w' ⟨rfl,rfl⟩)
  | (go_at_call 142; refine Calls.mono (HW.out _) ?_; rintro e w' ⟨rfl,hR⟩))
 all_goals
  go_wp2_with fail
  go_ret
  exact⟨rfl,hR⟩
def q4t (e:Pl.Ev) (o:Pl.Wt):Prop:=e.room≤9223372036854775807∧(e.room<0∨(o.out.length:Int)≤e.room)
theorem q4t.put {e:Pl.Ev} {o:Pl.Wt} (h:q4t e o) (t:List UInt8):q4t e (e.put o t).1:=by
 refine⟨h.1,?_⟩
 unfold Pl.Ev.put
 rcases h.2 with h2 | h2
 ·exact .inl h2
 ·by_cases hn:e.room<0
  ·exact .inl hn
  ·right
   split
   ·simp only[List.length_append,List.length_take]; omega
   ·simp only[List.length_append]; omega
theorem qwj (w:World) (B g:Nat) (a0 a1 a3 a4 a7:Value) (e:Pl.Ev) (o:Pl.Wt) (p v:Value) (h:WbAt w B g a0 a1 (.int .i64 e.room) a3 a4 a7 o.out p v) (t:List UInt8) (hlen:o.out.length+t.length≤140737488355328) (hr:q4t e o) :
  Calls Tryz.prog 125 #[.pointer (some ⟨g,0,none⟩),bs t] w fun ed w'=>ed=.returned (.int .i64 (e.put o t).2)∧(∃ p' v',WbAt w' B g a0 a1 (.int .i64 e.room) a3 a4 a7 (e.put o t).1.out p' v')∧Below B w w'∧OthersKept 5 (some g) w w':=by
 have hsz:(⟨t.toArray⟩:ByteArray).size=t.length:=by simp[ByteArray.size]
 by_cases hc:0≤e.room∧e.room - o.out.length<t.length
 ·have ep:e.put o t=({ o with out:=o.out++t.take (e.room - o.out.length).toNat },6):=by unfold Pl.Ev.put; rw[if_pos hc]
  rw[ep]
  obtain⟨rm,hrm⟩:∃ rm:Nat,e.room=(rm:Int):=⟨e.room.toNat,by omega⟩
  have h2:=hr.2
  have h1:=hr.1
  rw[hrm]at h hc h1 h2 ⊢
  have hq:o.out.length+((rm:Int) - o.out.length).toNat=rm:=by omega
  exact qzq w B g a0 a1 a3 a4 a7 rm _ o.out p v h ⟨t.toArray⟩ (by rw[hsz]; exact hlen) h1 hq (by rw[hsz]; omega)
 ·have ep:e.put o t=({ o with out:=o.out++t },0):=by unfold Pl.Ev.put; rw[if_neg hc]
  rw[ep]
  exact qzr w B g a0 a1 a3 a4 a7 e.room o.out p v h ⟨t.toArray⟩ (by rw[hsz]; exact hlen) hr.1 (by rw[hsz]; omega)
end Go.Proofs.YtfkhljmiehdgmaaGreatDoor
namespace Go.Proofs.YtfkhljmiehdgmaaGreatDoor
open Go.RowKit
theorem qmt {f:Func} {a:Act} {w0 w:World} {p:Tmp} {r:Pl.Tg} (hf:f.results=#[.cell p 274]) (hp:a.tmps.getD p undef=.pointer (some ⟨w0.heap.size,0,none⟩)) (hd:a.defers=[]) (hw:w.heap[w0.heap.size]?=some (.cells (qky r) 274 (0,0))) (hb:Below w0.heap.size w0 w) :
  bodyPost Tryz.prog f (fun e w'=>e=.returned (qdl r)∧Below w0.heap.size w0 w') .ret a w:=
 bodyPost_ret (qbn hf _ _ w0.heap.size _ _ hp (qaa hw) Tryz.underlying274 rfl (by kernel_rfl)) hd ⟨rfl,hb⟩
theorem qtf {w:World} {g:Nat} {t:TypeId} {u0 u1 u2 u3 u4:Value} (h:w.heap[g]?=some (.cells #[u0,u1,u2,u3,u4] t (0,0))) (v0 v1 v2 v3 v4:Value) :
  (((((w.setCell ⟨g,0,none⟩ v0).setCell ⟨g,1,none⟩ v1).setCell ⟨g,2,none⟩ v2).setCell ⟨g,3,none⟩ v3).setCell ⟨g,4,none⟩ v4).heap[g]?=some (.cells #[v0,v1,v2,v3,v4] t (0,0)):=
 heap_setCell_same _ _ _ _ _ _ (heap_setCell_same _ _ _ _ _ _ (heap_setCell_same _ _ _ _ _ _ (heap_setCell_same _ _ _ _ _ _ (heap_setCell_same _ _ _ _ _ _ h))))
theorem qle {B:Nat} {a w:World} {g:Nat} (h:Below B a w) (hg:B≤g) (v0 v1 v2 v3 v4:Value):Below B a (((((w.setCell ⟨g,0,none⟩ v0).setCell ⟨g,1,none⟩ v1).setCell ⟨g,2,none⟩ v2).setCell ⟨g,3,none⟩ v3).setCell ⟨g,4,none⟩ v4):=
 ((((h.setCell (p:=⟨g,0,none⟩) hg v0).setCell (p:=⟨g,1,none⟩) hg v1).setCell (p:=⟨g,2,none⟩) hg v2).setCell (p:=⟨g,3,none⟩) hg v3).setCell (p:=⟨g,4,none⟩) hg v4
structure TgSlot (w0 w:World):Prop where
 blk:w.heap[w0.heap.size]?=some (.cells #[.int .i64 0,.int .i64 0,.string ⟨#[]⟩,.string ⟨#[]⟩,.string ⟨#[]⟩] 274 (0,0))
 below:Below w0.heap.size w0 w
theorem qdc (w0:World):TgSlot w0 (w0.alloc (.cells #[.int .i64 0,.int .i64 0,.string ⟨#[]⟩,.string ⟨#[]⟩,.string ⟨#[]⟩] 274)):=⟨heap_alloc_new w0 _,(Below.refl _ _).alloc (Nat.le_refl _) _⟩
theorem TgSlot.next {w0 w w':World} (h:TgSlot w0 w) (hb:Below w.heap.size w w'):TgSlot w0 w':=
 ⟨(hb.block _ (Array.getElem?_eq_some_iff.1 h.blk).1).trans h.blk,h.below.trans (hb.mono h.below.size)⟩
theorem TgSlot.facts {w0 w:World} (h:TgSlot w0 w):(w.cell? ⟨w0.heap.size,0,none⟩=some (.int .i64 0)∧w.cell? ⟨w0.heap.size,1,none⟩=some (.int .i64 0)∧w.cell? ⟨w0.heap.size,2,none⟩=some (.string ⟨#[]⟩)∧w.cell? ⟨w0.heap.size,3,none⟩=some (.string ⟨#[]⟩)∧w.cell? ⟨w0.heap.size,4,none⟩=some (.string ⟨#[]⟩)) ∧
  w.frozen? ⟨w0.heap.size,0,none⟩=false∧w.frozen? ⟨w0.heap.size,1,none⟩=false∧w.frozen? ⟨w0.heap.size,2,none⟩=false∧w.frozen? ⟨w0.heap.size,3,none⟩=false∧w.frozen? ⟨w0.heap.size,4,none⟩=false:=by
 have c:=qaa h.blk
 refine⟨⟨c 0 _ rfl,c 1 _ rfl,c 2 _ rfl,c 3 _ rfl,c 4 _ rfl⟩,?_⟩
 simp[World.frozen?,h.blk]
theorem qfs {f:Func} {a:Act} {w0 w:World} {p:Tmp} (r:Pl.Tg) (hf:f.results=#[.cell p 274]) (hp:a.tmps.getD p undef=.pointer (some ⟨w0.heap.size,0,none⟩)) (hd:a.defers=[]) (hs:TgSlot w0 w) {v0 v1 v2 v3 v4:Value} (hv:#[v0,v1,v2,v3,v4]=qky r) :
  bodyPost Tryz.prog f (fun e w'=>e=.returned (qdl r)∧Below w0.heap.size w0 w') .ret a (((((w.setCell ⟨w0.heap.size,0,none⟩ v0).setCell ⟨w0.heap.size,1,none⟩ v1).setCell ⟨w0.heap.size,2,none⟩ v2).setCell ⟨w0.heap.size,3,none⟩ v3).setCell ⟨w0.heap.size,4,none⟩ v4):=
 qmt (r:=r) hf hp hd (by rw[qtf hs.blk,hv]) (qle hs.below (Nat.le_refl _) _ _ _ _ _)
set_option maxRecDepth 100000 in
set_option maxHeartbeats 3200000 in
theorem qmu (k:Nat) (s:ByteArray) (w:World) (hs:s.size≤100000) (hm:qay w) :
  Calls Tryz.prog 195 #[.int .i64 k,.string s] w fun e w'=>e=.returned (qdl (Pl.qc4 k s.data.toList))∧Below w.heap.size w w':=by
 have HB:=(show Hid _ from fun o=>qy1 s (w.alloc o) hs (hm.below ((Below.refl _ _).alloc (Nat.le_refl _) _)))
 clear hm
 by_cases h6:k=6
 ·subst h6
  clear HB
  by_cases hi:Pl.qce s.data.toList=true
  ·have HV:Hid (Pl.qc4 6 s.data.toList=⟨6,0,s.data.toList,[],[]⟩):=by show _=_; unfold Pl.qc4; simp[hi]
   rw[HV.out]
   clear HV
   go_enter Tryz.func195,Tryz.ntmps195
   go_wp2_with (go_at_call 72; refine(qco s _).mono ?_; rintro e w' ⟨rfl,rfl⟩; rw[hi])
   exact qmt (r:=⟨6,0,s.data.toList,[],[]⟩) Tryz.results195 rfl rfl (heap_alloc_new w _) ((Below.refl _ _).alloc (Nat.le_refl _) _)
  ·have hi:=Bool.eq_false_iff.2 hi
   have HV:Hid (Pl.qc4 6 s.data.toList=⟨6,3,[],[],[]⟩):=by show _=_; unfold Pl.qc4; simp[hi]
   rw[HV.out]
   clear HV
   go_enter Tryz.func195,Tryz.ntmps195
   go_wp2_with (go_at_call 72; refine(qco s _).mono ?_; rintro e w' ⟨rfl,rfl⟩; rw[hi])
   exact qmt (r:=⟨6,3,[],[],[]⟩) Tryz.results195 rfl rfl (heap_alloc_new w _) ((Below.refl _ _).alloc (Nat.le_refl _) _)
 ·have c6:¬(k:Int)=6:=by omega
  by_cases hi:Pl.isNm s.data.toList=true
  ·have HV:Hid (Pl.qc4 k s.data.toList=⟨k,0,s.data.toList,[],[]⟩):=by show _=_; unfold Pl.qc4; simp[hi,h6]
   rw[HV.out]
   clear HV
   rw[hi]at HB
   clear h6
   go_enter Tryz.func195,Tryz.ntmps195
   go_wp2_with (go_at_call 230; refine Calls.mono (HB.out _) ?_; rintro e w' ⟨rfl,hb⟩; have hS:=(qdc w).next hb; obtain⟨⟨k0,k1,k2,k3,k4⟩,f0,f1,f2,f3,f4⟩:=hS.facts; have HS:=(show Hid _ from hS); clear hb hS)
   exact qfs (w0:=w) ⟨k,0,s.data.toList,[],[]⟩ Tryz.results195 rfl rfl HS.out rfl
  ·have hi:=Bool.eq_false_iff.2 hi
   have HV:Hid (Pl.qc4 k s.data.toList=⟨k,3,[],[],[]⟩):=by show _=_; unfold Pl.qc4; simp[hi,h6]
   rw[HV.out]
   clear HV
   rw[hi]at HB
   clear h6
   go_enter Tryz.func195,Tryz.ntmps195
   go_wp2_with (go_at_call 230; refine Calls.mono (HB.out _) ?_; rintro e w' ⟨rfl,hb⟩; have hS:=(qdc w).next hb; obtain⟨⟨k0,k1,k2,k3,k4⟩,f0,f1,f2,f3,f4⟩:=hS.facts; have HS:=(show Hid _ from hS); clear hb hS)
   exact qfs (w0:=w) ⟨k,3,[],[],[]⟩ Tryz.results195 rfl rfl HS.out rfl
def qla (B:Nat) (w:World) (v:Value) (xs:List Value):Prop:=∃ ao cap,v=.slice ao xs.length cap∧xs.length≤maxLen∧(xs≠[]→∃ k,ao=some ⟨k,0,none⟩∧k<B∧∀ j x,xs[j]?=some x→w.cell? ⟨k,j,none⟩=some x)
theorem qla.below {B:Nat} {w w':World} {v:Value} {xs:List Value} (h:qla B w v xs) (hb:Below B w w'):qla B w' v xs:=by
 obtain⟨ao,cap,hv,hl,hx⟩:=h
 refine⟨ao,cap,hv,hl,fun hne=>?_⟩
 obtain⟨k,h1,h2,h3⟩:=hx hne
 exact⟨k,h1,h2,fun j x hj=>(hb.cell (p:=⟨k,j,none⟩) h2).trans (h3 j x hj)⟩
structure DtAt (B:Nat) (w:World) (b k:Nat) (x:Pl.Dt):Prop where
 kind:w.cell? ⟨b,k*5,none⟩=some (.int .i64 x.kind)
 n:w.cell? ⟨b,k*5+1,none⟩=some (.int .i64 x.n)
 s:w.cell? ⟨b,k*5+2,none⟩=some (bs x.s)
 rows:∃ iv nv,w.cell? ⟨b,k*5+3,none⟩=some iv∧w.cell? ⟨b,k*5+4,none⟩=some nv∧qla B w iv (x.items.map (.int .i64))∧qla B w nv (x.names.map bs)
theorem DtAt.below {B:Nat} {w w':World} {b k:Nat} {x:Pl.Dt} (h:DtAt B w b k x) (hb:Below B w w') (hlt:b<B):DtAt B w' b k x:=by
 obtain⟨iv,nv,h1,h2,h3,h4⟩:=h.rows
 exact⟨(hb.cell (p:=⟨b,k*5,none⟩) hlt).trans h.kind,(hb.cell (p:=⟨b,k*5+1,none⟩) hlt).trans h.n,(hb.cell (p:=⟨b,k*5+2,none⟩) hlt).trans h.s,iv,nv,(hb.cell (p:=⟨b,k*5+3,none⟩) hlt).trans h1,(hb.cell (p:=⟨b,k*5+4,none⟩) hlt).trans h2,h3.below hb,h4.below hb⟩
def DsAt (B:Nat) (w:World) (dv:Value) (D:List Pl.Dt):Prop:=∃ ao cap,dv=.slice ao D.length cap∧D.length≤cap∧cap≤maxLen∧(D≠[]→∃ b,ao=some ⟨b,0,none⟩∧b<B∧∀ k x,D[k]?=some x→DtAt B w b k x)
theorem DsAt.below {B:Nat} {w w':World} {dv:Value} {D:List Pl.Dt} (h:DsAt B w dv D) (hb:Below B w w'):DsAt B w' dv D:=by
 obtain⟨ao,cap,h1,h2,h3,h4⟩:=h
 refine⟨ao,cap,h1,h2,h3,fun hne=>?_⟩
 obtain⟨b,k1,k2,k3⟩:=h4 hne
 exact⟨b,k1,k2,fun k x hk=>(k3 k x hk).below hb k2⟩
def qd9 (dv:Value):Pl.Pc→Value
 | none=>.agg #[.slice none 0 0,.int .i64 0]
 | some k=>.agg #[dv,.int .i64 k]
def qkv (B:Nat) (w:World) (d:Pl.Dt) (v:Value):Prop:=∃ iv nv,v=.agg #[.int .i64 d.kind,.int .i64 d.n,bs d.s,iv,nv]∧qla B w iv (d.items.map (.int .i64))∧qla B w nv (d.names.map bs)
theorem qc3 (B:Nat) (w:World):qla B w (.slice none 0 0) []:=⟨none,0,rfl,Nat.zero_le _,fun h=>absurd rfl h⟩
theorem qzd (B:Nat) (w:World):qkv B w Pl.Dt.null (.agg #[.int .i64 0,.int .i64 0,.string ⟨#[]⟩,.slice none 0 0,.slice none 0 0]):=⟨_,_,rfl,qc3 B w,qc3 B w⟩
theorem qbd (w:World) (o:Obj):(w.alloc o).heap.size=w.heap.size+1:=by unfold World.alloc; simp only[Array.size_push]
theorem qvj (w:World) (o o':Obj):((w.alloc o).alloc o').heap[w.heap.size+1]?=some o':=by
 have:=heap_alloc_new (w.alloc o) o'
 rw[qbd]at this
 exact this
theorem qiz (w:World) (o o':Obj):Below w.heap.size w ((w.alloc o).alloc o'):=((Below.refl _ _).alloc (Nat.le_refl _) _).alloc (by rw[qbd]; omega) _
theorem q12 {f:Func} {a:Act} {w:World} {g:Nat} {p:Tmp} {cs:Array Value} {R:Ending→World→Prop} (hf:f.results=#[.cell p 67]) (hp:a.tmps.getD p undef=.pointer (some ⟨g,0,none⟩)) (hd:a.defers=[]) (hw:w.heap[g]?=some (.cells cs 67 (0,0))) (hs:cs.size=5) (hR:R (.returned (.agg cs)) w) :
  bodyPost Tryz.prog f R .ret a w:=
 bodyPost_ret (qbn hf _ _ g _ _ hp (qaa hw) Tryz.underlying67 rfl (by rw[hs]; kernel_rfl)) hd hR
set_option maxRecDepth 100000 in
set_option maxHeartbeats 1600000 in
theorem qpy (ao:Option Addr) (n cap:Nat) (k:Nat) (B:Nat) (w:World) (hk:n≤k) :
  Calls Tryz.prog 215 #[.agg #[.slice ao n cap,.int .i64 k]] w fun e w'=>(∃ v,e=.returned v∧qkv B w Pl.Dt.null v)∧Below w.heap.size w w':=by
 have h1:(n:Int)≤(k:Int):=by omega
 have HV:=(show Hid _ from qzd B w)
 go_enter Tryz.func215,Tryz.ntmps215
 go_wp2_with fail
 exact q12 (g:=w.heap.size+1) Tryz.results215 rfl rfl (qvj w _ _) rfl ⟨⟨_,rfl,HV.out⟩,qiz w _ _⟩
set_option maxRecDepth 100000 in
set_option maxHeartbeats 1600000 in
theorem q4l (b n cap:Nat) (k:Nat) (B:Nat) (w:World) (d:Pl.Dt) (hk:k<n) (hB:B≤w.heap.size) (hb:b<B) (hd:DtAt B w b k d) :
  Calls Tryz.prog 215 #[.agg #[.slice (some ⟨b,0,none⟩) n cap,.int .i64 k]] w fun e w'=>(∃ v,e=.returned v∧qkv B w d v)∧Below w.heap.size w w':=by
 have h1:¬(n:Int)≤(k:Int):=by omega
 have h2:(k:Int)<(n:Int):=by omega
 obtain⟨iv,nv,k3,k4,k5,k6⟩:=hd.rows
 have HV:Hid (qkv B w d (.agg #[.int .i64 d.kind,.int .i64 d.n,bs d.s,iv,nv])):=⟨iv,nv,rfl,k5,k6⟩
 have hbl:∀ o o',Below w.heap.size w ((w.alloc o).alloc o'):=fun o o'=>qiz w o o'
 have c0:∀ o o',((w.alloc o).alloc o').cell? ⟨b,k*5,none⟩=some (.int .i64 d.kind):=fun o o'=>((hbl o o').cell (p:=⟨b,k*5,none⟩) (Nat.lt_of_lt_of_le hb hB)).trans hd.kind
 have c1:∀ o o',((w.alloc o).alloc o').cell? ⟨b,k*5+1,none⟩=some (.int .i64 d.n):=fun o o'=>((hbl o o').cell (p:=⟨b,k*5+1,none⟩) (Nat.lt_of_lt_of_le hb hB)).trans hd.n
 have c2:∀ o o',((w.alloc o).alloc o').cell? ⟨b,k*5+2,none⟩=some (bs d.s):=fun o o'=>((hbl o o').cell (p:=⟨b,k*5+2,none⟩) (Nat.lt_of_lt_of_le hb hB)).trans hd.s
 have c3:∀ o o',((w.alloc o).alloc o').cell? ⟨b,k*5+3,none⟩=some iv:=fun o o'=>((hbl o o').cell (p:=⟨b,k*5+3,none⟩) (Nat.lt_of_lt_of_le hb hB)).trans k3
 have c4:∀ o o',((w.alloc o).alloc o').cell? ⟨b,k*5+4,none⟩=some nv:=fun o o'=>((hbl o o').cell (p:=⟨b,k*5+4,none⟩) (Nat.lt_of_lt_of_le hb hB)).trans k4
 obtain⟨ia,icap,hiv,_⟩:=k5
 obtain⟨na,ncap,hnv,_⟩:=k6
 subst hiv; subst hnv
 unfold bs at c2 HV
 generalize (⟨d.s.toArray⟩:ByteArray)=ds at c2 HV
 generalize d.kind=dk at c0 HV
 rw[List.length_map]at c3 c4
 simp only[List.length_map]at HV
 clear hd k3 k4 hbl
 go_enter Tryz.func215,Tryz.ntmps215
 go_wp2_with fail
 exact q12 (g:=w.heap.size+1) Tryz.results215 rfl rfl (qvj w _ _) rfl ⟨⟨_,rfl,HV.out⟩,qiz w _ _⟩
theorem qkr (dv:Value) (D:List Pl.Dt) (p:Pl.Pc) (B:Nat) (w:World) (hB:B≤w.heap.size) (hD:DsAt B w dv D) :
  Calls Tryz.prog 215 #[qd9 dv p] w fun e w'=>(∃ v,e=.returned v∧qkv B w (Pl.qbb D p) v)∧Below w.heap.size w w':=by
 obtain⟨ao,cap,rfl,h1,h2,h3⟩:=hD
 cases p with
 | none=>exact qpy none 0 0 0 B w (Nat.le_refl _)
 | some k=>
   by_cases hk:k<D.length
   ·have hne:D≠[]:=fun e=>by rw[e]at hk; exact absurd hk (Nat.not_lt_zero _)
    obtain⟨b,rfl,hb,hx⟩:=h3 hne
    have e:Pl.qbb D (some k)=D[k]:=by simp[Pl.qbb,List.getD,List.getElem?_eq_getElem hk]
    rw[e]
    exact q4l b D.length cap k B w _ hk hB hb (hx k _ (List.getElem?_eq_getElem hk))
   ·have e:Pl.qbb D (some k)=Pl.Dt.null:=by simp[Pl.qbb,List.getD,List.getElem?_eq_none (Nat.le_of_not_lt hk)]
    rw[e]
    exact qpy ao D.length cap k B w (Nat.le_of_not_lt hk)
theorem qjr {f:Func} {a:Act} {w:World} {g:Nat} {p:Tmp} {cs:Array Value} {R:Ending→World→Prop} (hf:f.results=#[.cell p 147]) (hp:a.tmps.getD p undef=.pointer (some ⟨g,0,none⟩)) (hd:a.defers=[]) (hw:w.heap[g]?=some (.cells cs 147 (0,0))) (hs:cs.size=2) (hR:R (.returned (.agg cs)) w) :
  bodyPost Tryz.prog f R .ret a w:=
 bodyPost_ret (qbn hf _ _ g _ _ hp (qaa hw) Tryz.underlying147 rfl (by rw[hs]; kernel_rfl)) hd hR
set_option maxRecDepth 100000 in
set_option maxHeartbeats 1600000 in
theorem qw4 (ao:Option Addr) (n cap k:Nat) (i:Int) (w:World) :
  Calls Tryz.prog 219 #[.agg #[.slice ao n cap,.int .i64 k],.int .i64 i] w fun e w'=>e=.returned (qd9 (.slice ao n cap) (Pl.qc9 k i))∧Below w.heap.size w w':=by
 by_cases h:i≤(k:Int)
 ·have e:Pl.qc9 k i=none:=by unfold Pl.qc9; rw[if_pos h]
  rw[e]
  go_enter Tryz.func219,Tryz.ntmps219
  go_wp2_with fail
  exact qjr (g:=w.heap.size+1) Tryz.results219 rfl rfl (qvj w _ _) rfl ⟨rfl,qiz w _ _⟩
 ·have e:Pl.qc9 k i=some i.toNat:=by unfold Pl.qc9; rw[if_neg h]
  have e2:(i.toNat:Int)=i:=by omega
  have HV:Hid (qd9 (.slice ao n cap) (Pl.qc9 k i)=.agg #[.slice ao n cap,.int .i64 i]):=by
   show _=_
   rw[e]
   show Value.agg #[.slice ao n cap,.int .i64 (i.toNat:Nat)]=_
   rw[e2]
  rw[HV.out]
  clear e e2
  go_enter Tryz.func219,Tryz.ntmps219
  go_wp2_with fail
  exact qjr (g:=w.heap.size+1) Tryz.results219 rfl rfl (qvj w _ _) rfl ⟨rfl,qiz w _ _⟩
theorem qgi {B:Nat} {w:World} {d:Pl.Dt} {v:Value} (h:qkv B w d v):∃ ia icap na ncap,v=.agg #[.int .i64 d.kind,.int .i64 d.n,bs d.s,.slice ia d.items.length icap,.slice na d.names.length ncap]∧qla B w (.slice ia d.items.length icap) (d.items.map (.int .i64))∧qla B w (.slice na d.names.length ncap) (d.names.map bs):=by
 obtain⟨iv,nv,rfl,h1,h2⟩:=h
 have h1':=h1
 have h2':=h2
 obtain⟨ia,icap,rfl,_⟩:=h1
 obtain⟨na,ncap,rfl,_⟩:=h2
 simp only[List.length_map]at h1' h2' ⊢
 exact⟨ia,icap,na,ncap,rfl,h1',h2'⟩
set_option maxRecDepth 100000 in
set_option maxHeartbeats 3200000 in
theorem q1f (pv:Value) (ao:Option Addr) (n cap k:Nat) (hpv:pv=.agg #[.slice ao n cap,.int .i64 k]) (d:Pl.Dt) (B:Nat) (w:World)
  (hD:∀ o,Calls Tryz.prog 215 #[pv] (w.alloc o) fun e w'=>(∃ v,e=.returned v∧qkv B (w.alloc o) d v)∧Below (w.alloc o).heap.size (w.alloc o) w') :
  Calls Tryz.prog 177 #[pv] w fun e w'=>e=.returned (.bool (Pl.qoz d))∧Below w.heap.size w w':=by
 subst hpv
 have HD:Hid (∀ o,Calls Tryz.prog 215 #[.agg #[.slice ao n cap,.int .i64 k]] (w.alloc o) fun e w'=>(∃ ia icap na ncap,e=.returned (.agg #[.int .i64 d.kind,.int .i64 d.n,bs d.s,.slice ia d.items.length icap,.slice na d.names.length ncap]))∧Below w.heap.size w w'):=fun o=>(hD o).mono (by
  rintro e w' ⟨⟨v,rfl,hv⟩,hb⟩
  obtain⟨ia,icap,na,ncap,rfl,_,_⟩:=qgi hv
  exact⟨⟨ia,icap,na,ncap,rfl⟩,(((Below.refl w.heap.size w).alloc (Nat.le_refl _) o).trans (hb.mono (by rw[qbd]; omega)))⟩)
 have HV:Hid (Pl.qoz d=if d.kind=1 then d.n==0 else if d.kind=3 then(⟨d.s.toArray⟩:ByteArray).toList.isEmpty else if d.kind=4 then((d.items.length:Int)==0) else if d.kind=2∨d.kind=5 then false else true):=by
  show _=_
  unfold Pl.qoz
  have e1:(d.s==[])=(⟨d.s.toArray⟩:ByteArray).toList.isEmpty:=by
   have h1:(⟨d.s.toArray⟩:ByteArray).toList=d.s:=by simp[ByteArray.toList_eq]
   rw[h1]
   cases d.s<;>rfl
  have e2:(d.items.length==0)=((d.items.length:Int)==0):=by
   rw[Bool.eq_iff_iff,beq_iff_eq,beq_iff_eq]
   omega
  rw[e1,e2]
 clear hD
 unfold bs at HD
 generalize Pl.qoz d=R at HV ⊢
 generalize d.kind=dk at HD HV
 generalize d.n=dn at HD HV
 generalize d.items.length=il at HD HV
 generalize d.names.length=nl at HD
 generalize (⟨d.s.toArray⟩:ByteArray)=ds at HD HV
 rcases(show dk=1∨dk=3∨dk=4∨dk=2∨dk=5∨(dk≠1∧dk≠3∧dk≠4∧dk≠2∧dk≠5) by omega)with rfl | rfl | rfl | rfl | rfl | ⟨h1,h2,h3,h4,h5⟩
 all_goals
  go_enter Tryz.func177,Tryz.ntmps177
  go_wp2_with (go_at_call 215; refine Calls.mono (HD.out _) ?_; rintro e w' ⟨⟨ia,icap,na,ncap,rfl⟩,hb⟩)
  go_ret
  refine⟨qax ?_,hb.alloc hb.size _⟩
  rw[HV.out]
  first | rfl | (simp; done) | (simp[*]; done) | skip
end Go.Proofs.YtfkhljmiehdgmaaGreatDoor
