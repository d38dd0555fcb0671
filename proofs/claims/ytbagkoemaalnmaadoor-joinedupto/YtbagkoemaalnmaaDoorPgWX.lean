/-
  The walks of package markup: the state behind a byte; the modes of a page.
-/
import Derived.Test.YtbagkoemaalnmaaDoorPgWI
import Derived.Test.YtbagkoemaalnmaaDoorPgWJ
import Derived.Test.YtbagkoemaalnmaaDoorPgWK
import Derived.Test.YtbagkoemaalnmaaDoorPgWL
import Derived.Test.YtbagkoemaalnmaaDoorPgWM
import Derived.Test.YtbagkoemaalnmaaDoorPgWN
import Derived.Test.YtbagkoemaalnmaaDoorPgWO
import Derived.Test.YtbagkoemaalnmaaDoorPgWP
import Derived.Test.YtbagkoemaalnmaaDoorPgWQ
import Derived.Test.YtbagkoemaalnmaaDoorPgWR
import Derived.Test.YtbagkoemaalnmaaDoorPgWU
import Derived.Test.YtbagkoemaalnmaaDoorPgWV
import Derived.Test.YtbagkoemaalnmaaDoorPgWW
import Derived.Test.YtbagkoemaalnmaaDoorPgD
namespace Go.Proofs.YtbagkoemaalnmaaDoor
open Go.RowKit

theorem behind_any (s : Pl.St) (b : UInt8) (w : World) (ht : PTabs w) (h : s.Ok) :
    Calls Tryd.prog 46 #[stVal s, .int .u8 b.toNat] w fun e w' => e = .returned (stVal (s.behind b)) ∧ Below w.heap.size w w' := by
  have hn := h.name
  have hhi := h.hi
  have hs : s.elem.length ≤ 1000 := by have := Pl.nameOk_len h.elem; omega
  have hR1 := Pl.readIn_fix s.mode hhi
  by_cases hm : s.mode < 19
  · by_cases hT : Pl.stepOn s.mode b = 0
    · by_cases hR : Pl.readInTab.getD s.mode 0 = 0
      · exact behind_low_b s b w ht hn hm hT hR
      · have h2 := Pl.readIn_low s.mode hm hR
        rw [h2] at hT
        by_cases hT1 : Pl.stepOn 1 b = 0
        · exact behind_low_d s b w ht hn h2 hT hT1
        · exact behind_low_c s b w ht hn h2 hT hT1
    · exact behind_low_a s b w ht hn hm hT
  · have hm : 19 ≤ s.mode := by omega
    by_cases he : s.ends b = true
    · exact behind_ends s b w ht hs hm he
    · have he := Bool.eq_false_iff.2 he
      by_cases hesc : Pl.escapesTab.getD s.mode false = true
      · by_cases hx : s.esc = true
        · exact behind_esc1 s b w ht hs hm hhi he hesc hx
        · have hx := Bool.eq_false_iff.2 hx
          by_cases hb : (b == 92) = true
          · exact behind_esc0 s b w ht hs hm hhi he hesc hx hb
          · have hb := Bool.eq_false_iff.2 hb
            by_cases hT : Pl.stepOn s.mode b = 0
            · exact behind_high_sb s b w ht hs hn hm hhi he hesc hx hb hT (Pl.esc_read s.mode hhi hesc)
            · exact behind_high_sa s b w ht hs hn hm hhi he hesc hx hb hT
      · have hesc := Bool.eq_false_iff.2 hesc
        by_cases hT : Pl.stepOn s.mode b = 0
        · by_cases hR : Pl.readInTab.getD s.mode 0 = 0
          · exact behind_high_b s b w ht hs hn hm hhi he hesc hT hR
          · by_cases hT1 : Pl.stepOn (Pl.readInTab.getD s.mode 0) b = 0
            · exact behind_high_d s b w ht hs hn hm hhi he hesc _ hT rfl hR hR1.2 hR1.1 hT1
            · exact behind_high_c s b w ht hs hn hm hhi he hesc _ hT rfl hR hR1.2 hR1.1 hT1
        · exact behind_high_a s b w ht hs hn hm hhi he hesc hT

end Go.Proofs.YtbagkoemaalnmaaDoor
