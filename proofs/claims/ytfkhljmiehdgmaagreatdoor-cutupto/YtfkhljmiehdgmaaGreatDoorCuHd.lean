/-
  A fact that is kept out of sight.
-/
import Derived.Laws.IdiomRangeMap
import Derived.Below
import Derived.Test.YtfkhljmiehdgmaaGreatDoorProg
import Derived.Laws.Rows
import Derived.Laws.World
import Derived.Calls
namespace Go.Proofs.YtfkhljmiehdgmaaGreatDoor
open Go.RowKit
theorem ya:type_of% @Array.getElem?_eq_some_iff:=@Array.getElem?_eq_some_iff
theorem yb:type_of% @List.getElem?_eq_some_iff:=@List.getElem?_eq_some_iff
theorem yc:type_of% @List.getElem?_eq_getElem:=@List.getElem?_eq_getElem
theorem yd:type_of% @List.getElem?_eq_none:=@List.getElem?_eq_none
theorem ye:type_of% @Bool.eq_false_iff:=@Bool.eq_false_iff
theorem yf:type_of% @beq_eq_false_iff_ne:=@beq_eq_false_iff_ne
theorem yg:type_of% @Nat.le_refl:=@Nat.le_refl
theorem yh:type_of% @Nat.le_trans:=@Nat.le_trans
theorem yi:type_of% @Nat.lt_of_lt_of_le:=@Nat.lt_of_lt_of_le
theorem yj:type_of% @Nat.le_of_lt:=@Nat.le_of_lt
theorem yk:type_of% @Option.some.inj:=@Option.some.inj
theorem yl:type_of% @List.mem_of_getElem?:=@List.mem_of_getElem?
theorem yn:type_of% @List.mem_append:=@List.mem_append
theorem yo:type_of% @List.drop_eq_getElem_cons:=@List.drop_eq_getElem_cons
theorem yp:type_of% @List.take_of_length_le:=@List.take_of_length_le
theorem yq:type_of% @List.append_assoc:=@List.append_assoc
theorem yr:type_of% @List.getElem?_append_left:=@List.getElem?_append_left
theorem yt:type_of% @List.getElem?_append_right:=@List.getElem?_append_right
theorem yu:type_of% @List.take_append_drop:=@List.take_append_drop
theorem yv:type_of% @List.mem_singleton:=@List.mem_singleton
theorem yw:type_of% @List.append_nil:=@List.append_nil
theorem yx:type_of% @decide_eq_false:=@decide_eq_false
theorem yy:type_of% @Option.map_eq_some_iff:=@Option.map_eq_some_iff
theorem yz:type_of% @List.getElem?_map:=@List.getElem?_map
theorem yA:type_of% @List.prefix_refl:=@List.prefix_refl
theorem yB:type_of% @List.take_succ_eq_append_getElem:=@List.take_succ_eq_append_getElem
theorem yC:type_of% @List.eq_nil_of_length_eq_zero:=@List.eq_nil_of_length_eq_zero
theorem yD:type_of% @List.drop_drop:=@List.drop_drop
theorem yE:type_of% @congrArg:=@congrArg
theorem yF:type_of% @beq_iff_eq:=@beq_iff_eq
theorem yG:type_of% @List.map_append:=@List.map_append
theorem yH:type_of% @Nat.zero_le:=@Nat.zero_le
theorem yI:type_of% @List.getElem?_append:=@List.getElem?_append
theorem yJ:type_of% @List.length_append:=@List.length_append
theorem yK:type_of% @List.length_cons:=@List.length_cons
theorem yL:type_of% @Bool.and_eq_true:=@Bool.and_eq_true
theorem yM:type_of% @List.length_drop:=@List.length_drop
theorem yN:type_of% @decide_eq_true_eq:=@decide_eq_true_eq
theorem yO:type_of% @decide_eq_false_iff_not:=@decide_eq_false_iff_not
theorem yP:type_of% @List.length_take:=@List.length_take
theorem yQ:type_of% @List.length_nil:=@List.length_nil
theorem yR:type_of% @List.length_map:=@List.length_map
theorem yS:type_of% @List.getElem?_cons_zero:=@List.getElem?_cons_zero
theorem yT:type_of% @List.getElem?_cons_succ:=@List.getElem?_cons_succ
theorem yU:type_of% @Bool.or_eq_true:=@Bool.or_eq_true
theorem yV:type_of% @decide_eq_true:=@decide_eq_true
theorem yW:type_of% @List.all_eq_true:=@List.all_eq_true
theorem yX:type_of% @List.mem_cons_of_mem:=@List.mem_cons_of_mem
theorem yY:type_of% @Array.getD_eq_getD_getElem?:=@Array.getD_eq_getD_getElem?
theorem yZ:type_of% @Nat.not_lt_zero:=@Nat.not_lt_zero
theorem xb:type_of% @List.take_succ_cons:=@List.take_succ_cons
theorem xf:type_of% @Nat.zero_add:=@Nat.zero_add
theorem xg:type_of% @List.mem_range:=@List.mem_range
theorem xh:type_of% @Bool.eq_iff_iff:=@Bool.eq_iff_iff
theorem xi:type_of% @ByteArray.ext:=@ByteArray.ext
theorem xj:type_of% @List.getElem?_of_mem:=@List.getElem?_of_mem
theorem xo:type_of% @List.mem_cons_self:=@List.mem_cons_self
theorem xq:type_of% @List.mem_map:=@List.mem_map
theorem xt:type_of% @List.mem_cons:=@List.mem_cons
theorem xu:type_of% @List.dropWhile_cons_of_neg:=@List.dropWhile_cons_of_neg
theorem xw:type_of% @List.dropWhile_cons_of_pos:=@List.dropWhile_cons_of_pos
theorem xx:type_of% @List.getD_eq_getElem?_getD:=@List.getD_eq_getElem?_getD
theorem xy:type_of% @Option.bind_eq_some_iff:=@Option.bind_eq_some_iff
theorem xz:type_of% @Nat.sub_self:=@Nat.sub_self
theorem xA:type_of% @List.extract_eq_take_drop:=@List.extract_eq_take_drop
theorem xB:type_of% @List.cons_append:=@List.cons_append
theorem xC:type_of% @List.nil_append:=@List.nil_append
theorem xD:type_of% @List.take_append_of_le_length:=@List.take_append_of_le_length
theorem xE:type_of% @Nat.mul_le_mul_right:=@Nat.mul_le_mul_right
theorem xF:type_of% @heap_alloc_new:=@heap_alloc_new
theorem xG:type_of% @heap_setCell_same:=@heap_setCell_same
theorem xH:type_of% @frozen_of_row:=@frozen_of_row
theorem xI(w:World)(o:Obj){r:Nat}(h:r<w.heap.size):(w.alloc o).heap[r]?=w.heap[r]?:=by first|exact heap_alloc_old w o h|exact heap_alloc_old w o r h
theorem xJ:type_of% @heap_setCell_other:=@heap_setCell_other
theorem xK:type_of% @Below.heap_setCell:=@Below.heap_setCell
theorem xL:type_of% @Below.refl:=@Below.refl
theorem xM:type_of% @World.cell?_setCell_other:=@World.cell?_setCell_other
theorem xN:type_of% @World.cell?_setCell_same:=@World.cell?_setCell_same
theorem xO:type_of% @World.block_lt_of_cell?:=@World.block_lt_of_cell?
theorem xP:type_of% @World.cell?_of_block:=@World.cell?_of_block
theorem xQ:type_of% @Calls.mono:=@Calls.mono
theorem zH{p:Prop}(h:p):Go.RowKit.Hid p:=h
theorem zB{w:World}(o:Obj):Below w.heap.size w (w.alloc o):=(Below.refl _ _).alloc (Nat.le_refl _) o
theorem zL{w:World}{i:Nat}{b:Obj}(h:w.heap[i]?=some b):i<w.heap.size:=(Array.getElem?_eq_some_iff.1 h).1
theorem Pl.z0:True:=trivial
open Go
abbrev zI (n : Int) : Value := .int .i64 n
abbrev zS : Value := .string ⟨#[]⟩
abbrev zP (g : Nat) : Value := .pointer (some ⟨g, 0, none⟩)
abbrev zO (b o : Nat) : Addr := ⟨b, o, none⟩
abbrev zN : Value := .slice none 0 0
abbrev zW (w w' : World) : Prop := Below w.heap.size w w'
abbrev zR (v : Value) (w : World) (e : Ending) (w' : World) : Prop := e = .returned v ∧ Below w.heap.size w w'
abbrev zQ (v : Value) (w : World) (e : Ending) (w' : World) : Prop := e = .returned v ∧ w = w'
abbrev zK (cs : Array Value) (t : TypeId) : Option Obj := some (.cells cs t (0, 0))
abbrev zC (f : FuncId) (a : Array Value) (w : World) (Q : Ending → World → Prop) : Prop := Calls Tryz.prog f a w Q
abbrev zV (l : List UInt8) : Value := .string ⟨l.toArray⟩
abbrev zF (g n c : Nat) : Value := .slice (some ⟨g, 0, none⟩) n c
abbrev zJ (n : Int) : Value := .int .u8 n
abbrev zU := List UInt8
abbrev zT := ByteArray
end Go.Proofs.YtfkhljmiehdgmaaGreatDoor
