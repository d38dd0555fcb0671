/-
  The walk of package markup: the modes of a page.
-/
import Derived.Test.YtbagkoemaalnmaaDoorPgHi
import Derived.Test.YtbagkoemaalnmaaDoorPgD
namespace Go.Proofs.YtbagkoemaalnmaaDoor
open Go.RowKit

/-- what is asked of the state behind a byte: its contract, handed in -/
def Behind : Prop := ∀ (s : Pl.St) (b : UInt8) (w : World), PTabs w → s.Ok →
    Calls Tryd.prog 46 #[stVal s, .int .u8 b.toNat] w fun e w' => e = .returned (stVal (s.behind b)) ∧ Below w.heap.size w w'
def intCells (l : List Nat) : List Value := l.map fun (m : Nat) => .int .i64 (m : Int)
theorem intCells_len (l : List Nat) : (intCells l).length = l.length := by simp [intCells]
theorem intCells_snoc (l : List Nat) (m : Nat) : intCells (l ++ [m]) = intCells l ++ [.int .i64 (m : Int)] := by simp [intCells]
theorem info_int : (Tryd.prog.info? 3).map (fun i => (i.zero, i.size, i.bytes)) = some (some (.int .i64 0), 1, 8) := by kernel_rfl
theorem made_ints (n : Nat) : (madeCells (Value.int .i64 0).cells (n * 1)).toList = List.replicate n (.int .i64 0) := by
  rw [Nat.mul_one]; exact toList_madeCells_one _ _
theorem set_next (l : List Value) (x y : Value) (n k : Nat) (hl : l.length = k) (hk : k < n) : (l ++ List.replicate (n - k) x).set k y = (l ++ [y]) ++ List.replicate (n - (k + 1)) x := by
  obtain ⟨j, hj⟩ : ∃ j, n - k = j + 1 := ⟨n - k - 1, by omega⟩
  have hj' : n - (k + 1) = j := by omega
  rw [hj, hj', List.replicate_succ, List.set_append_right _ _ (by omega), hl, Nat.sub_self, List.set_cons_zero, List.append_assoc]
  rfl
theorem ownsRow_block {w w' : World} {B g : Nat} {e : TypeId} {n cap : Nat} {xs : List Value} (h : w.ownsRow B e 1 (.slice (some ⟨g, 0, none⟩) n cap) n xs) (hb : w'.heap[g]? = w.heap[g]?) : w'.ownsRow B e 1 (.slice (some ⟨g, 0, none⟩) n cap) n xs := by
  refine ⟨h.1, ?_⟩
  rcases h.2 with hn | ⟨g', cap', cur, hv, hB, hg, rest⟩
  · exact .inl hn
  · simp only [Value.slice.injEq, Option.some.injEq, Addr.mk.injEq, and_true, true_and] at hv
    obtain ⟨rfl, rfl⟩ := hv
    exact .inr ⟨g, cap, cur, rfl, hB, hb.trans hg, rest⟩

theorem StAt.other {w : World} {g : Nat} {s : Pl.St} (h : StAt w g s) (p : Addr) (v : Value) (hp : p.block ≠ g) : StAt (w.setCell p v) g s := by
  have e : ∀ j, p ≠ ⟨g, j, none⟩ := fun j q => hp (by rw [q])
  exact ⟨(World.cell?_setCell_other _ _ _ _ (e _)).trans h.mode, (World.cell?_setCell_other _ _ _ _ (e _)).trans h.name, (World.cell?_setCell_other _ _ _ _ (e _)).trans h.elem,
    (World.cell?_setCell_other _ _ _ _ (e _)).trans h.kind, (World.cell?_setCell_other _ _ _ _ (e _)).trans h.read, (World.cell?_setCell_other _ _ _ _ (e _)).trans h.esc⟩
theorem stAt_set6 {w : World} {g : Nat} (h : Slot6 w g) (s : Pl.St) : StAt (set6 w g (.int .u8 (s.mode : Int)) (.string ⟨s.name.toArray⟩) (.string ⟨s.elem.toArray⟩) (.int .i64 s.kind) (.int .i64 (s.read : Int)) (.bool s.esc)) g s :=
  ⟨cells_set6 h _ _ _ _ _ _ 0 _ rfl, cells_set6 h _ _ _ _ _ _ 1 _ rfl, cells_set6 h _ _ _ _ _ _ 2 _ rfl, cells_set6 h _ _ _ _ _ _ 3 _ rfl, cells_set6 h _ _ _ _ _ _ 4 _ rfl, cells_set6 h _ _ _ _ _ _ 5 _ rfl⟩
theorem slot6_set6 {w : World} {g : Nat} (h : Slot6 w g) (v0 v1 v2 v3 v4 v5 : Value) : Slot6 (set6 w g v0 v1 v2 v3 v4 v5) g := (((((h.set _ _).set _ _).set _ _).set _ _).set _ _).set _ _

/-- what holds ahead of each round -/
structure Round (w0 w : World) (G : Nat) (s : ByteArray) (k : Nat) : Prop where
  row : w.ownsRow w0.heap.size 3 1 (.slice (some ⟨w0.heap.size, 0, none⟩) s.size s.size) s.size (intCells (Pl.modesFrom Pl.St.start (s.data.toList.take k)) ++ List.replicate (s.size - k) (.int .i64 0))
  at' : StAt w G (Pl.stFrom Pl.St.start (s.data.toList.take k))
  slot : Slot6 w G
  below : Below w0.heap.size w0 w
  gt : w0.heap.size < G
theorem Round.step {w0 w w2 : World} {G : Nat} {s : ByteArray} {k : Nat} (h : Round w0 w G s k) (hk : k < s.size) (Y : Pl.St) (hY : Y = (Pl.stFrom Pl.St.start (s.data.toList.take k)).behind s[k]) (hb : Below w.heap.size w.drew w2) :
    StAt (set6 w2 G (.int .u8 (Y.mode : Int)) (.string ⟨Y.name.toArray⟩) (.string ⟨Y.elem.toArray⟩) (.int .i64 Y.kind) (.int .i64 (Y.read : Int)) (.bool Y.esc)) G Y ∧
    (set6 w2 G (.int .u8 (Y.mode : Int)) (.string ⟨Y.name.toArray⟩) (.string ⟨Y.elem.toArray⟩) (.int .i64 Y.kind) (.int .i64 (Y.read : Int)) (.bool Y.esc)).cell? ⟨w0.heap.size, k, none⟩ = some (.int .i64 0) ∧
    w2.frozen? ⟨w0.heap.size, k, none⟩ = false ∧ Slot6 w2 G ∧
    Round w0 ((set6 w2 G (.int .u8 (Y.mode : Int)) (.string ⟨Y.name.toArray⟩) (.string ⟨Y.elem.toArray⟩) (.int .i64 Y.kind) (.int .i64 (Y.read : Int)) (.bool Y.esc)).setCell ⟨w0.heap.size, k, none⟩ (.int .i64 (Y.mode : Int))) G s (k + 1) := by
  have hgt := h.gt
  have hsz := h.below.size
  have hlen : (intCells (Pl.modesFrom Pl.St.start (s.data.toList.take k))).length = k := by rw [intCells_len, Pl.modesFrom_len, Pl.take_len s k (by omega)]
  have hs2 : Slot6 w2 G := h.slot.drew.kept hb h.slot.lt
  have hB2 : Below w0.heap.size w0 w2 := h.below.drew.trans (hb.mono hsz)
  have hrow2 : w2.ownsRow w0.heap.size 3 1 (.slice (some ⟨w0.heap.size, 0, none⟩) s.size s.size) s.size _ := ownsRow_block h.row (hb.block w0.heap.size (Nat.lt_trans hgt h.slot.lt))
  generalize hV : set6 w2 G (.int .u8 (Y.mode : Int)) (.string ⟨Y.name.toArray⟩) (.string ⟨Y.elem.toArray⟩) (.int .i64 Y.kind) (.int .i64 (Y.read : Int)) (.bool Y.esc) = V
  have hVB : Below G w2 V := by rw [← hV]; exact below_set6 (Below.refl _ _) (Nat.le_refl _) _ _ _ _ _ _
  have hVs : Slot6 V G := by rw [← hV]; exact slot6_set6 hs2 _ _ _ _ _ _
  have hVa : StAt V G Y := by rw [← hV]; exact stAt_set6 hs2 Y
  have hrow3 := ownsRow_block hrow2 (hVB.block w0.heap.size hgt)
  have hst := hrow3.stored k (.int .i64 (Y.mode : Int))
  rw [set_next _ _ _ _ _ hlen hk] at hst
  refine ⟨hVa, ?_, hrow2.frozenAt k, hs2, ?_, ?_, hVs.set _ _, ?_, hgt⟩
  · rw [hrow3.cellAt k (by omega), List.getElem?_append_right (by omega), hlen, Nat.sub_self, List.getElem?_replicate, if_pos (by omega)]
  · have := hst.1
    rw [Pl.take_snoc s k hk, Pl.modesFrom_snoc, intCells_snoc, ← hY]
    exact this
  · rw [Pl.take_snoc s k hk, Pl.stFrom_snoc, ← hY]
    exact hVa.other _ _ (by simp; omega)
  · exact (hB2.trans (hVB.mono (Nat.le_of_lt hgt))).setCell (p := ⟨w0.heap.size, k, none⟩) (Nat.le_refl _) _

set_option maxRecDepth 100000 in
set_option maxHeartbeats 3200000 in
theorem mkModes (HB : Behind) (s : ByteArray) (w : World) (ht : PTabs w) (hs : s.size ≤ 100000000) :
    Calls Tryd.prog 29 #[.string s] w fun e w' => e = .returned (.slice (some ⟨w.heap.size, 0, none⟩) s.size s.size) ∧ w'.ownsRow w.heap.size 3 1 (.slice (some ⟨w.heap.size, 0, none⟩) s.size s.size) s.size (intCells (Pl.modesFrom Pl.St.start s.data.toList)) ∧ Below w.heap.size w w' := by
  obtain ⟨i0, hi, hz0, hz1, hz2⟩ := info_parts info_int
  go_enter Tryd.func29, Tryd.ntmps29
  go_wp2_with (at_make; refine wpList_make_full _ rfl _ _ 36 rfl w.heap.size 3 i0 (.int .i64 0) 1 Tryd.underlying36 hi hz0 hz1 .i64 .i64 _ _ s.size rfl rfl rfl rfl (by rw [hz2]; omega) (by unfold maxLen; omega) (Nat.le_refl _) ?_; intro w1 hown0 hg0)
  rw [made_ints] at hown0
  have hb0 : Below w.heap.size w w1 := (Below.refl _ _).grown hg0 (Nat.le_refl _) (fun k h => by cases h)
  have hgt : w.heap.size < w1.heap.size := (hown0.lt w.heap.size rfl).2
  clear hg0
  have HR0 : Hid (Round w (w1.alloc (.cells (stCells Pl.St.start) 69)) w1.heap.size s 0) :=
    ⟨by simpa [Pl.modesFrom, intCells] using hown0.alloc _, stAt_alloc w1 Pl.St.start _, slot6_new w1 _ _ _ rfl rfl, hb0.alloc hb0.size _, hgt⟩
  generalize w1.heap.size = G at HR0 hgt ⊢
  clear hown0 hb0
  go_loopw [5, 12] (fun _ i wr => ∃ k : Nat, k ≤ s.size ∧ i = .int .i64 k ∧ Hid (Round w wr G s k)) (fun _ i _ => s.size - (intOf i).toNat)
  case atStart => exact ⟨0, Nat.zero_le _, rfl, HR0⟩
  case round =>
    obtain ⟨k, hk, rfl, HR⟩ := hrel
    clear HR0
    have ht1 : PTabs wr := ht.kept HR.out.below
    by_cases hlt : k < s.size
    · have hok : (Pl.stFrom Pl.St.start (s.data.toList.take k)).Ok := Pl.stFrom_ok Pl.start_ok _
      have hB := fun w h => HB (Pl.stFrom Pl.St.start (s.data.toList.take k)) s[k] w h hok
      have HST := fun (Y : Pl.St) (hY : Y = (Pl.stFrom Pl.St.start (s.data.toList.take k)).behind s[k]) (w2 : World) (hb : Below wr.heap.size wr.drew w2) => HR.out.step hlt Y hY hb
      have hat := HR.out.at'
      have hsl := HR.out.slot
      have hym := (Pl.behind_ok s[k] hok).hi
      generalize (Pl.stFrom Pl.St.start (s.data.toList.take k)).behind s[k] = Y at hB HST hym
      have HSY := (show Hid _ from HST Y rfl)
      clear HST
      generalize Pl.stFrom Pl.St.start (s.data.toList.take k) = S at hB hat
      have q0 := hat.mode
      have q1 := hat.name
      have q2 := hat.elem
      have q3 := hat.kind
      have q4 := hat.read
      have q5 := hat.esc
      unfold stVal stCells bs at hB
      have HB' := (show Hid _ from hB)
      clear hB hok
      go_wp2_with fail
      first | go_region_with (first
        | (go_at_call 46; refine (HB'.out _ ht1.drew).mono ?_; rintro e w2 ⟨rfl, hb2⟩
           obtain ⟨hVa, hc, hf, hs2, hR⟩ := HSY.out w2 hb2
           unfold set6 at hVa hc hR
           have HRn := (show Hid _ from hR)
           clear hR
           obtain ⟨v0, p0⟩ := hs2.cell 0 (by omega)
           obtain ⟨v1, p1⟩ := hs2.cell 1 (by omega)
           obtain ⟨v2, p2⟩ := hs2.cell 2 (by omega)
           obtain ⟨v3, p3⟩ := hs2.cell 3 (by omega)
           obtain ⟨v4, p4⟩ := hs2.cell 4 (by omega)
           obtain ⟨v5, p5⟩ := hs2.cell 5 (by omega)
           have f0 := hs2.thaw 0
           have f1 := hs2.thaw 1
           have f2 := hs2.thaw 2
           have f3 := hs2.thaw 3
           have f4 := hs2.thaw 4
           have f5 := hs2.thaw 5)) | fail
      all_goals
        have r0 := hVa.mode
        clear q0 q1 q2 q3 q4 q5
        go_wp2
        go_roundw
        case rel => exact ⟨k + 1, by omega, by go_num, HRn⟩
        case measure => simp [intOf]; omega
    · have he : k = s.size := by omega
      have hrow := HR.out.row
      rw [Pl.take_all s k (by omega), show s.size - k = 0 by omega, List.replicate_zero, List.append_nil] at hrow
      have hbl := HR.out.below
      clear he
      go_wp2
      go_ret
      exact ⟨rfl, hrow, hbl⟩

end Go.Proofs.YtbagkoemaalnmaaDoor
