/-
  A fact that is kept out of sight.
-/
import Derived.Below
namespace Go.Proofs.YtfkhljmiehdgmaaGreatDoor
open Go.RowKit
theorem hd{p:Prop}(h:p):Go.RowKit.Hid p:=h
theorem ba{w:World}(o:Obj):Below w.heap.size w (w.alloc o):=(Below.refl _ _).alloc (Nat.le_refl _) o
theorem lta{w:World}{i:Nat}{b:Obj}(h:w.heap[i]?=some b):i<w.heap.size:=(Array.getElem?_eq_some_iff.1 h).1
end Go.Proofs.YtfkhljmiehdgmaaGreatDoor
