/-
  Several texts laid together: each opens with its own remark.
-/
import Derived.Test.YtfkhljmiehdgmaaGreatDoorMhC
import Derived.Test.YtfkhljmiehdgmaaGreatDoorPgTabs
import Derived.Test.YtfkhljmiehdgmaaGreatDoorMhB
import Derived.Test.YtfkhljmiehdgmaaGreatDoorMhH
import Derived.RegionTactic
import Derived.BigRegion
import Derived.Deep.RegionWith

/-
  What is asked of Modes: its contract, handed in.
-/
namespace Go.Proofs.YtfkhljmiehdgmaaGreatDoor
open Go.RowKit

def ModesC : Prop := ∀ (s : ByteArray) (w : World), PTabs w → s.size ≤ 100000000 →
    Calls Tryz.prog 21 #[.string s] w fun e w' => e = .returned (.slice (some ⟨w.heap.size, 0, none⟩) s.size s.size) ∧ w'.ownsRow w.heap.size 3 1 (.slice (some ⟨w.heap.size, 0, none⟩) s.size s.size) s.size (intCells (Pl.modes s.data.toList)) ∧ Below w.heap.size w w'

end Go.Proofs.YtfkhljmiehdgmaaGreatDoor

/-
  The walk of package markup: the modes of a page.
-/
namespace Go.Proofs.YtfkhljmiehdgmaaGreatDoor
open Go.RowKit

/-- what is asked of the state behind a byte: its contract, handed in -/
def Behind : Prop := ∀ (x : Pl.Sx) (b : UInt8) (w : World), PTabs w → Pl.SxOk x →
    Calls Tryz.prog 63 #[sxVal x, .int .u8 b.toNat] w fun e w' => e = .returned (sxVal (x.behind b)) ∧ Below w.heap.size w w'
set_option maxHeartbeats 800000 in
theorem begin_any (w : World) : Calls Tryz.prog 62 #[] w fun e w' => e = .returned (sxVal Pl.Sx.start) ∧ w.alloc (.cells (sxCells Pl.Sx.start) 162) = w' := by
  go_enter Tryz.func62, Tryz.ntmps62
  go_wp2
  refine bodyPost_cell Tryz.results62 w.heap.size _ _ Tryz.underlying162 rfl rfl (heap_alloc_new _ _) (by kernel_rfl) rfl ?_
  exact ⟨rfl, rfl⟩
theorem SxAt.other {w : World} {g : Nat} {s : Pl.Sx} (h : SxAt w g s) (p : Addr) (v : Value) (hp : p.block ≠ g) : SxAt (w.setCell p v) g s := by
  have e : ∀ j, p ≠ ⟨g, j, none⟩ := fun j q => hp (by rw [q])
  exact ⟨(World.cell?_setCell_other _ _ _ _ (e _)).trans h.mode, (World.cell?_setCell_other _ _ _ _ (e _)).trans h.name, (World.cell?_setCell_other _ _ _ _ (e _)).trans h.elem, (World.cell?_setCell_other _ _ _ _ (e _)).trans h.kind, (World.cell?_setCell_other _ _ _ _ (e _)).trans h.read, (World.cell?_setCell_other _ _ _ _ (e _)).trans h.ref, (World.cell?_setCell_other _ _ _ _ (e _)).trans h.esc, (World.cell?_setCell_other _ _ _ _ (e _)).trans h.hex, (World.cell?_setCell_other _ _ _ _ (e _)).trans h.pct, (World.cell?_setCell_other _ _ _ _ (e _)).trans h.far⟩
theorem sxAt_set10 {w : World} {g : Nat} (h : SlotN 10 w g) (s : Pl.Sx) : SxAt (set10 w g (.int .u8 (s.st.mode : Int)) (.string ⟨s.st.name.toArray⟩) (.string ⟨s.st.elem.toArray⟩) (.int .i64 s.st.kind) (.int .i64 (s.st.read : Int)) (.bool s.ma.ref) (.bool s.st.esc) (.int .i64 s.ma.hex) (.int .i64 s.ma.pct) (.int .i64 s.ma.far)) g s :=
  ⟨cells_set10 h _ _ _ _ _ _ _ _ _ _ 0 _ rfl, cells_set10 h _ _ _ _ _ _ _ _ _ _ 1 _ rfl, cells_set10 h _ _ _ _ _ _ _ _ _ _ 2 _ rfl, cells_set10 h _ _ _ _ _ _ _ _ _ _ 3 _ rfl, cells_set10 h _ _ _ _ _ _ _ _ _ _ 4 _ rfl, cells_set10 h _ _ _ _ _ _ _ _ _ _ 5 _ rfl, cells_set10 h _ _ _ _ _ _ _ _ _ _ 6 _ rfl, cells_set10 h _ _ _ _ _ _ _ _ _ _ 7 _ rfl, cells_set10 h _ _ _ _ _ _ _ _ _ _ 8 _ rfl, cells_set10 h _ _ _ _ _ _ _ _ _ _ 9 _ rfl⟩
theorem slot10_set10 {w : World} {g : Nat} (h : SlotN 10 w g) (v0 v1 v2 v3 v4 v5 v6 v7 v8 v9 : Value) : SlotN 10 (set10 w g v0 v1 v2 v3 v4 v5 v6 v7 v8 v9) g := by
  rw [set10_eq]
  exact setFrom_slot g g _ _ _ h

/-- what holds ahead of each round -/
structure Round (w0 w : World) (G : Nat) (s : ByteArray) (k : Nat) : Prop where
  row : w.ownsRow w0.heap.size 3 1 (.slice (some ⟨w0.heap.size, 0, none⟩) s.size s.size) s.size (intCells (Pl.modesFrom Pl.St.start (s.data.toList.take k)) ++ List.replicate (s.size - k) (.int .i64 0))
  at' : SxAt w G (Pl.sxFrom Pl.Sx.start (s.data.toList.take k))
  slot : SlotN 10 w G
  below : Below w0.heap.size w0 w
  gt : w0.heap.size < G
theorem Round.step {w0 w w2 : World} {G : Nat} {s : ByteArray} {k : Nat} (h : Round w0 w G s k) (hk : k < s.size) (Y : Pl.Sx) (hY : Y = (Pl.sxFrom Pl.Sx.start (s.data.toList.take k)).behind s[k]) (hb : Below w.heap.size w.drew w2) :
    SxAt (set10 w2 G (.int .u8 (Y.st.mode : Int)) (.string ⟨Y.st.name.toArray⟩) (.string ⟨Y.st.elem.toArray⟩) (.int .i64 Y.st.kind) (.int .i64 (Y.st.read : Int)) (.bool Y.ma.ref) (.bool Y.st.esc) (.int .i64 Y.ma.hex) (.int .i64 Y.ma.pct) (.int .i64 Y.ma.far)) G Y ∧
    (set10 w2 G (.int .u8 (Y.st.mode : Int)) (.string ⟨Y.st.name.toArray⟩) (.string ⟨Y.st.elem.toArray⟩) (.int .i64 Y.st.kind) (.int .i64 (Y.st.read : Int)) (.bool Y.ma.ref) (.bool Y.st.esc) (.int .i64 Y.ma.hex) (.int .i64 Y.ma.pct) (.int .i64 Y.ma.far)).cell? ⟨w0.heap.size, k, none⟩ = some (.int .i64 0) ∧
    w2.frozen? ⟨w0.heap.size, k, none⟩ = false ∧ SlotN 10 w2 G ∧
    Round w0 ((set10 w2 G (.int .u8 (Y.st.mode : Int)) (.string ⟨Y.st.name.toArray⟩) (.string ⟨Y.st.elem.toArray⟩) (.int .i64 Y.st.kind) (.int .i64 (Y.st.read : Int)) (.bool Y.ma.ref) (.bool Y.st.esc) (.int .i64 Y.ma.hex) (.int .i64 Y.ma.pct) (.int .i64 Y.ma.far)).setCell ⟨w0.heap.size, k, none⟩ (.int .i64 (Y.st.mode : Int))) G s (k + 1) := by
  have hgt := h.gt
  have hsz := h.below.size
  have hlen : (intCells (Pl.modesFrom Pl.St.start (s.data.toList.take k))).length = k := by rw [intCells_len, Pl.modesFrom_len, Pl.take_len s k (by omega)]
  have hs2 : SlotN 10 w2 G := h.slot.drew.kept hb h.slot.lt
  have hB2 : Below w0.heap.size w0 w2 := h.below.drew.trans (hb.mono hsz)
  have hrow2 : w2.ownsRow w0.heap.size 3 1 (.slice (some ⟨w0.heap.size, 0, none⟩) s.size s.size) s.size _ := ownsRow_block h.row (hb.block w0.heap.size (Nat.lt_trans hgt h.slot.lt))
  have hYst : Y.st = (Pl.stFrom Pl.St.start (s.data.toList.take k)).behind s[k] := by rw [hY]; show ((Pl.sxFrom Pl.Sx.start (s.data.toList.take k)).st).behind _ = _; rw [Pl.sxFrom_st]; rfl
  generalize hV : (set10 w2 G (.int .u8 (Y.st.mode : Int)) (.string ⟨Y.st.name.toArray⟩) (.string ⟨Y.st.elem.toArray⟩) (.int .i64 Y.st.kind) (.int .i64 (Y.st.read : Int)) (.bool Y.ma.ref) (.bool Y.st.esc) (.int .i64 Y.ma.hex) (.int .i64 Y.ma.pct) (.int .i64 Y.ma.far)) = V
  have hVB : Below G w2 V := by rw [← hV]; exact below_set10 (Below.refl _ _) (Nat.le_refl _) _ _ _ _ _ _ _ _ _ _
  have hVs : SlotN 10 V G := by rw [← hV]; exact slot10_set10 hs2 _ _ _ _ _ _ _ _ _ _
  have hVa : SxAt V G Y := by rw [← hV]; exact sxAt_set10 hs2 Y
  have hrow3 := ownsRow_block hrow2 (hVB.block w0.heap.size hgt)
  have hst := hrow3.stored k (.int .i64 (Y.st.mode : Int))
  rw [set_next _ _ _ _ _ hlen hk] at hst
  refine ⟨hVa, ?_, hrow2.frozenAt k, hs2, ?_, ?_, hVs.set _ _, ?_, hgt⟩
  · rw [hrow3.cellAt k (by omega), List.getElem?_append_right (by omega), hlen, Nat.sub_self, List.getElem?_replicate, if_pos (by omega)]
  · have := hst.1
    rw [Pl.take_snoc s k hk, Pl.modesFrom_snoc, intCells_snoc, ← hYst]
    exact this
  · rw [Pl.take_snoc s k hk, Pl.sxFrom_snoc, ← hY]
    exact hVa.other _ _ (by simp; omega)
  · exact (hB2.trans (hVB.mono (Nat.le_of_lt hgt))).setCell (p := ⟨w0.heap.size, k, none⟩) (Nat.le_refl _) _

set_option maxRecDepth 100000 in
set_option maxHeartbeats 6400000 in
theorem mkModes (HB : Behind) (s : ByteArray) (w : World) (ht : PTabs w) (hs : s.size ≤ 100000000) :
    Calls Tryz.prog 37 #[.string s] w fun e w' => e = .returned (.slice (some ⟨w.heap.size, 0, none⟩) s.size s.size) ∧ w'.ownsRow w.heap.size 3 1 (.slice (some ⟨w.heap.size, 0, none⟩) s.size s.size) s.size (intCells (Pl.modesFrom Pl.St.start s.data.toList)) ∧ Below w.heap.size w w' := by
  obtain ⟨i0, hi, hz0, hz1, hz2⟩ := info_parts info_int
  have hBG := fun w => begin_any w
  have HR0 : ∀ w1 : World, Below w.heap.size w w1 → w.heap.size < w1.heap.size → w1.ownsRow w.heap.size 3 1 (.slice (some ⟨w.heap.size, 0, none⟩) s.size s.size) s.size (List.replicate s.size (.int .i64 0)) → Round w ((w1.alloc (.cells (sxCells Pl.Sx.start) 162)).alloc (.cells (sxCells Pl.Sx.start) 162)) (w1.heap.size + 1) s 0 := fun w1 hb0 hgt hown0 =>
    ⟨by simpa [Pl.modesFrom, intCells] using (hown0.alloc _).alloc _, by have := sxAt_alloc (w1.alloc (.cells (sxCells Pl.Sx.start) 162)) Pl.Sx.start 162; simpa [Pl.sxFrom] using this, slotN_new 10 _ _ _ _ (by simp) rfl, (hb0.alloc hb0.size _).alloc (by simp; omega) _, by omega⟩
  unfold sxVal at hBG
  unfold sxCells bs Pl.Sx.start Pl.St.start Pl.Mk.none at hBG HR0
  simp only at hBG HR0
  have HBG := (show Hid _ from hBG)
  have HRR := (show Hid _ from HR0)
  clear hBG HR0
  go_enter Tryz.func37, Tryz.ntmps37
  go_wp2_with (at_make; refine wpList_make_full _ rfl _ _ 36 rfl w.heap.size 3 i0 (.int .i64 0) 1 Tryz.underlying36 hi hz0 hz1 .i64 .i64 _ _ s.size rfl rfl rfl rfl (by rw [hz2]; omega) (by unfold maxLen; omega) (Nat.le_refl _) ?_; intro w1 hown0 hg0)
  rw [made_ints] at hown0
  have hb0 : Below w.heap.size w w1 := (Below.refl _ _).grown hg0 (Nat.le_refl _) (fun k h => by cases h)
  have hgt : w.heap.size < w1.heap.size := (hown0.lt w.heap.size rfl).2
  clear hg0
  refine (HBG.out _).mono ?_
  rintro e w' ⟨rfl, rfl⟩
  have HR0 := (show Hid _ from HRR.out w1 hb0 hgt hown0)
  clear HRR
  go_wp2_with fail
  generalize (World.alloc _ (.cells #[.int .u8 ((1 : Nat) : Int), _, _, _, _, _, _, _, _, _] _)) = w4 at HR0 ⊢
  have hgt2 : w.heap.size < w1.heap.size + 1 := by omega
  generalize w1.heap.size + 1 = G at HR0 hgt2 ⊢
  clear hown0 hb0 hgt
  go_loopw [5, 12] (fun _ i wr => ∃ k : Nat, k ≤ s.size ∧ i = .int .i64 k ∧ Hid (Round w wr G s k)) (fun _ i _ => s.size - (intOf i).toNat)
  case atStart => exact ⟨0, Nat.zero_le _, rfl, HR0⟩
  case round =>
    obtain ⟨k, hk, rfl, HR⟩ := hrel
    clear HR0
    have ht1 : PTabs wr := ht.kept HR.out.below
    by_cases hlt : k < s.size
    · have hok : Pl.SxOk (Pl.sxFrom Pl.Sx.start (s.data.toList.take k)) := Pl.sxFrom_ok _ _ Pl.sxStart_ok
      have hB := fun w h => HB (Pl.sxFrom Pl.Sx.start (s.data.toList.take k)) s[k] w h hok
      have HST := fun (Y : Pl.Sx) (hY : Y = (Pl.sxFrom Pl.Sx.start (s.data.toList.take k)).behind s[k]) (w2 : World) (hb : Below wr.heap.size wr.drew w2) => HR.out.step hlt Y hY hb
      have hat := HR.out.at'
      have hsl := HR.out.slot
      have hym := (Pl.sxBehind_ok s[k] hok).st.hi
      generalize (Pl.sxFrom Pl.Sx.start (s.data.toList.take k)).behind s[k] = Y at hB HST hym
      have HSY := (show Hid _ from HST Y rfl)
      clear HST
      generalize Pl.sxFrom Pl.Sx.start (s.data.toList.take k) = S at hB hat
      have q0 := hat.mode
      have q1 := hat.name
      have q2 := hat.elem
      have q3 := hat.kind
      have q4 := hat.read
      have q5 := hat.ref
      have q6 := hat.esc
      have q7 := hat.hex
      have q8 := hat.pct
      have q9 := hat.far
      unfold sxVal sxCells bs at hB
      have HB' := (show Hid _ from hB)
      clear hB hok
      go_wp2_with fail
      first | go_region_with (first
        | (go_at_call 63; refine (HB'.out _ ht1.drew).mono ?_; rintro e w2 ⟨rfl, hb2⟩
           obtain ⟨hVa, hc, hf, hs2, hR⟩ := HSY.out w2 hb2
           unfold set10 at hVa hc hR
           have HRn := (show Hid _ from hR)
           clear hR
           obtain ⟨v0, p0⟩ := hs2.cell 0 (by omega)
           obtain ⟨v1, p1⟩ := hs2.cell 1 (by omega)
           obtain ⟨v2, p2⟩ := hs2.cell 2 (by omega)
           obtain ⟨v3, p3⟩ := hs2.cell 3 (by omega)
           obtain ⟨v4, p4⟩ := hs2.cell 4 (by omega)
           obtain ⟨v5, p5⟩ := hs2.cell 5 (by omega)
           obtain ⟨v6, p6⟩ := hs2.cell 6 (by omega)
           obtain ⟨v7, p7⟩ := hs2.cell 7 (by omega)
           obtain ⟨v8, p8⟩ := hs2.cell 8 (by omega)
           obtain ⟨v9, p9⟩ := hs2.cell 9 (by omega)
           have f0 := hs2.thaw 0
           have f1 := hs2.thaw 1
           have f2 := hs2.thaw 2
           have f3 := hs2.thaw 3
           have f4 := hs2.thaw 4
           have f5 := hs2.thaw 5
           have f6 := hs2.thaw 6
           have f7 := hs2.thaw 7
           have f8 := hs2.thaw 8
           have f9 := hs2.thaw 9
           clear q0 q1 q2 q3 q4 q5 q6 q7 q8 q9 hsl hat hb2)) | fail
      all_goals
        have r0 := hVa.mode
        go_wp2
        go_roundw
        case rel => exact ⟨k + 1, by omega, by go_num, HRn⟩
        case measure => simp [intOf]; omega
    · have he : k = s.size := by omega
      have hrow := HR.out.row
      rw [Pl.take_all s k (by omega), show s.size - k = 0 by omega, List.replicate_zero, List.append_nil] at hrow
      have hbl := HR.out.below
      clear he
      go_wp2
      go_ret
      exact ⟨rfl, hrow, hbl⟩

set_option maxHeartbeats 800000 in
theorem mkModesC (HB : Behind) : ModesC := by
  intro s w ht hs
  go_enter Tryz.func21, Tryz.ntmps21
  go_wp2_with fail
  refine (mkModes HB s w ht hs).mono ?_
  rintro e w1 ⟨rfl, hr, hb⟩
  go_wp2_with fail
  go_ret
  exact ⟨rfl, hr, hb⟩

end Go.Proofs.YtfkhljmiehdgmaaGreatDoor
