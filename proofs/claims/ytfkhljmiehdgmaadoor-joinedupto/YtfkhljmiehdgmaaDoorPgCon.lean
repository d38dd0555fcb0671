/-
  What is asked of Modes: its contract, handed in.
-/
import Derived.Test.YtfkhljmiehdgmaaDoorMgC
import Derived.Test.YtfkhljmiehdgmaaDoorPgTabs
import Derived.Test.YtfkhljmiehdgmaaDoorMgB
namespace Go.Proofs.YtfkhljmiehdgmaaDoor
open Go.RowKit

def ModesC : Prop := ∀ (s : ByteArray) (w : World), PTabs w → s.size ≤ 100000000 →
    Calls Tryd.prog 15 #[.string s] w fun e w' => e = .returned (.slice (some ⟨w.heap.size, 0, none⟩) s.size s.size) ∧ w'.ownsRow w.heap.size 3 1 (.slice (some ⟨w.heap.size, 0, none⟩) s.size s.size) s.size (intCells (Pl.modes s.data.toList)) ∧ Below w.heap.size w w'

end Go.Proofs.YtfkhljmiehdgmaaDoor
