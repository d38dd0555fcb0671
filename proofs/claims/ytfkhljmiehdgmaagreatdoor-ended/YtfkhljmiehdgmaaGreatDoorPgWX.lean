/-
  The walks of package markup: the state behind a byte.
-/
import Derived.Test.YtfkhljmiehdgmaaGreatDoorPgWI
import Derived.Test.YtfkhljmiehdgmaaGreatDoorPgWJ
import Derived.Test.YtfkhljmiehdgmaaGreatDoorPgWK
import Derived.Test.YtfkhljmiehdgmaaGreatDoorPgWL
import Derived.Test.YtfkhljmiehdgmaaGreatDoorMhJ
import Derived.Test.YtfkhljmiehdgmaaGreatDoorPgWP
import Derived.Test.YtfkhljmiehdgmaaGreatDoorPgWQ
import Derived.Test.YtfkhljmiehdgmaaGreatDoorPgWR
import Derived.Test.YtfkhljmiehdgmaaGreatDoorPgWU
import Derived.Test.YtfkhljmiehdgmaaGreatDoorPgWV
import Derived.Test.YtfkhljmiehdgmaaGreatDoorPgWW
import Derived.Test.YtfkhljmiehdgmaaGreatDoorMhB
namespace Go.Proofs.YtfkhljmiehdgmaaGreatDoor
open Go.RowKit

theorem behind_any (x : Pl.Sx) (b : UInt8) (w : World) (ht : PTabs w) (h : Pl.SxOk x) :
    Calls Tryz.prog 63 #[sxVal x, .int .u8 b.toNat] w fun e w' => e = .returned (sxVal (x.behind b)) ∧ Below w.heap.size w w' := by
  obtain ⟨s, k⟩ := x
  have hx : -1000 ≤ k.hex ∧ k.hex ≤ 1000 := by have := h.ma.hex; simp only at this; omega
  have hy : -1000 ≤ k.pct ∧ k.pct ≤ 1000 := by have := h.ma.pct; simp only at this; omega
  have h := h.st
  simp only at h
  have hn := h.name
  have hhi := h.hi
  have hs : s.elem.length ≤ 1000 := by have := Pl.nameOk_len h.elem; omega
  have hR1 := Pl.readIn_fix s.mode hhi
  by_cases hm : 19 ≤ s.mode
  · by_cases he : s.ends b = true
    · exact behind_ends s k b w ht hhi hs hm he
    · have he := Bool.eq_false_iff.2 he
      by_cases hesc : Pl.escapesTab.getD s.mode false = true
      · by_cases hx0 : s.esc = true
        · exact behind_esc1 s k b w ht hhi hs hm he hesc hx0
        · have hx0 := Bool.eq_false_iff.2 hx0
          by_cases hb : (b == 92) = true
          · exact behind_esc0 s k b w ht hhi hs hm he hesc hx0 hb
          · have hb := Bool.eq_false_iff.2 hb
            by_cases hT : Pl.stepOn s.mode b = 0
            · exact behind_high_sb s k b w ht hn hhi hx hy hs hm he hesc hx0 hb hT (Pl.esc_read s.mode hhi hesc)
            · exact behind_high_sa s k b w ht hn hhi hx hy hs hm he hesc hx0 hb hT
      · have hesc := Bool.eq_false_iff.2 hesc
        have hx0 := h.calm hesc
        by_cases hT : Pl.stepOn s.mode b = 0
        · by_cases hR : Pl.readInTab.getD s.mode 0 = 0
          · exact behind_high_b s k b w ht hn hhi hx hy hs hm he hesc hx0 hT hR
          · by_cases hT1 : Pl.stepOn (Pl.readInTab.getD s.mode 0) b = 0
            · exact behind_high_d s k b w ht hn hhi hx hy hs hm he hesc hx0 _ hT rfl hR hR1.2 hR1.1 hT1
            · exact behind_high_c s k b w ht hn hhi hx hy hs hm he hesc hx0 _ hT rfl hR hR1.2 hR1.1 hT1
        · exact behind_high_a s k b w ht hn hhi hx hy hs hm he hesc hx0 hT
  · have hesc := Pl.esc_low s.mode (by omega)
    have hx0 := h.calm hesc
    by_cases hT : Pl.stepOn s.mode b = 0
    · by_cases hR : Pl.readInTab.getD s.mode 0 = 0
      · exact behind_low_b s k b w ht hn hhi hx hy hm hesc hx0 hT hR
      · by_cases hT1 : Pl.stepOn (Pl.readInTab.getD s.mode 0) b = 0
        · exact behind_low_d s k b w ht hn hhi hx hy hm hesc hx0 _ hT rfl hR hR1.2 hR1.1 hT1
        · exact behind_low_c s k b w ht hn hhi hx hy hm hesc hx0 _ hT rfl hR hR1.2 hR1.1 hT1
    · exact behind_low_a s k b w ht hn hhi hx hy hm hesc hx0 hT

end Go.Proofs.YtfkhljmiehdgmaaGreatDoor
