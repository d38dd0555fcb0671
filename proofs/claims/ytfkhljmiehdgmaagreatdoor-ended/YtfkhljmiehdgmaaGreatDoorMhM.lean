/-
  Several texts laid together: each opens with its own remark.
-/
import Derived.Test.YtfkhljmiehdgmaaGreatDoorMhL
import Derived.Shelf.Strings.SlTrimAscii
import Derived.Lib.BufferWrite
import Derived.Lib.UnsafeStr
import Derived.OwnWalk

/-
  The walks of package tags: a tag that has a name.
-/
namespace Go.Proofs.YtfkhljmiehdgmaaGreatDoor
open Go.RowKit

theorem tg_post {f : Func} {a : Act} {w0 w : World} {p : Tmp} {r : Pl.Tg} (hf : f.results = #[.cell p 274]) (hp : a.tmps.getD p undef = .pointer (some ⟨w0.heap.size, 0, none⟩)) (hd : a.defers = []) (hw : w.heap[w0.heap.size]? = some (.cells (tgCells r) 274 (0, 0))) (hb : Below w0.heap.size w0 w) :
    bodyPost Tryz.prog f (fun e w' => e = .returned (tgVal r) ∧ Below w0.heap.size w0 w') .ret a w :=
  bodyPost_ret (results_cell hf _ _ w0.heap.size _ _ hp (cells_at_block hw) Tryz.underlying274 rfl (by kernel_rfl)) hd ⟨rfl, hb⟩

theorem heap_set5 {w : World} {g : Nat} {t : TypeId} {u0 u1 u2 u3 u4 : Value} (h : w.heap[g]? = some (.cells #[u0, u1, u2, u3, u4] t (0, 0))) (v0 v1 v2 v3 v4 : Value) :
    (((((w.setCell ⟨g, 0, none⟩ v0).setCell ⟨g, 1, none⟩ v1).setCell ⟨g, 2, none⟩ v2).setCell ⟨g, 3, none⟩ v3).setCell ⟨g, 4, none⟩ v4).heap[g]? = some (.cells #[v0, v1, v2, v3, v4] t (0, 0)) :=
  heap_setCell_same _ _ _ _ _ _ (heap_setCell_same _ _ _ _ _ _ (heap_setCell_same _ _ _ _ _ _ (heap_setCell_same _ _ _ _ _ _ (heap_setCell_same _ _ _ _ _ _ h))))
theorem tgBelow_set5 {B : Nat} {a w : World} {g : Nat} (h : Below B a w) (hg : B ≤ g) (v0 v1 v2 v3 v4 : Value) : Below B a (((((w.setCell ⟨g, 0, none⟩ v0).setCell ⟨g, 1, none⟩ v1).setCell ⟨g, 2, none⟩ v2).setCell ⟨g, 3, none⟩ v3).setCell ⟨g, 4, none⟩ v4) :=
  ((((h.setCell (p := ⟨g, 0, none⟩) hg v0).setCell (p := ⟨g, 1, none⟩) hg v1).setCell (p := ⟨g, 2, none⟩) hg v2).setCell (p := ⟨g, 3, none⟩) hg v3).setCell (p := ⟨g, 4, none⟩) hg v4
/-- the result's slot, as a call left it -/
structure TgSlot (w0 w : World) : Prop where
  blk : w.heap[w0.heap.size]? = some (.cells #[.int .i64 0, .int .i64 0, .string ⟨#[]⟩, .string ⟨#[]⟩, .string ⟨#[]⟩] 274 (0, 0))
  below : Below w0.heap.size w0 w
theorem tgSlot_new (w0 : World) : TgSlot w0 (w0.alloc (.cells #[.int .i64 0, .int .i64 0, .string ⟨#[]⟩, .string ⟨#[]⟩, .string ⟨#[]⟩] 274)) := ⟨heap_alloc_new w0 _, (Below.refl _ _).alloc (Nat.le_refl _) _⟩
theorem TgSlot.next {w0 w w' : World} (h : TgSlot w0 w) (hb : Below w.heap.size w w') : TgSlot w0 w' :=
  ⟨(hb.block _ (Array.getElem?_eq_some_iff.1 h.blk).1).trans h.blk, h.below.trans (hb.mono h.below.size)⟩
theorem TgSlot.facts {w0 w : World} (h : TgSlot w0 w) : (w.cell? ⟨w0.heap.size, 0, none⟩ = some (.int .i64 0) ∧ w.cell? ⟨w0.heap.size, 1, none⟩ = some (.int .i64 0) ∧ w.cell? ⟨w0.heap.size, 2, none⟩ = some (.string ⟨#[]⟩) ∧ w.cell? ⟨w0.heap.size, 3, none⟩ = some (.string ⟨#[]⟩) ∧ w.cell? ⟨w0.heap.size, 4, none⟩ = some (.string ⟨#[]⟩)) ∧
    w.frozen? ⟨w0.heap.size, 0, none⟩ = false ∧ w.frozen? ⟨w0.heap.size, 1, none⟩ = false ∧ w.frozen? ⟨w0.heap.size, 2, none⟩ = false ∧ w.frozen? ⟨w0.heap.size, 3, none⟩ = false ∧ w.frozen? ⟨w0.heap.size, 4, none⟩ = false := by
  have c := cells_at_block h.blk
  refine ⟨⟨c 0 _ rfl, c 1 _ rfl, c 2 _ rfl, c 3 _ rfl, c 4 _ rfl⟩, ?_⟩
  simp [World.frozen?, h.blk]
theorem tg_post5 {f : Func} {a : Act} {w0 w : World} {p : Tmp} (r : Pl.Tg) (hf : f.results = #[.cell p 274]) (hp : a.tmps.getD p undef = .pointer (some ⟨w0.heap.size, 0, none⟩)) (hd : a.defers = []) (hs : TgSlot w0 w) {v0 v1 v2 v3 v4 : Value} (hv : #[v0, v1, v2, v3, v4] = tgCells r) :
    bodyPost Tryz.prog f (fun e w' => e = .returned (tgVal r) ∧ Below w0.heap.size w0 w') .ret a (((((w.setCell ⟨w0.heap.size, 0, none⟩ v0).setCell ⟨w0.heap.size, 1, none⟩ v1).setCell ⟨w0.heap.size, 2, none⟩ v2).setCell ⟨w0.heap.size, 3, none⟩ v3).setCell ⟨w0.heap.size, 4, none⟩ v4) :=
  tg_post (r := r) hf hp hd (by rw [heap_set5 hs.blk, hv]) (tgBelow_set5 hs.below (Nat.le_refl _) _ _ _ _ _)

set_option maxRecDepth 100000 in
set_option maxHeartbeats 3200000 in
theorem tgNamed_any (k : Nat) (s : ByteArray) (w : World) (hs : s.size ≤ 100000) (hm : MaxLenAt w) :
    Calls Tryz.prog 195 #[.int .i64 k, .string s] w fun e w' => e = .returned (tgVal (Pl.namedTg k s.data.toList)) ∧ Below w.heap.size w w' := by
  have HB := (show Hid _ from fun o => isName_any s (w.alloc o) hs (hm.below ((Below.refl _ _).alloc (Nat.le_refl _) _)))
  clear hm
  by_cases h6 : k = 6
  · subst h6
    clear HB
    by_cases hi : Pl.isIdent s.data.toList = true
    · have HV : Hid (Pl.namedTg 6 s.data.toList = ⟨6, 0, s.data.toList, [], []⟩) := by show _ = _; unfold Pl.namedTg; simp [hi]
      rw [HV.out]
      clear HV
      go_enter Tryz.func195, Tryz.ntmps195
      go_wp2_with (go_at_call 72; refine (isIdentifier_any s _).mono ?_; rintro e w' ⟨rfl, rfl⟩; rw [hi])
      exact tg_post (r := ⟨6, 0, s.data.toList, [], []⟩) Tryz.results195 rfl rfl (heap_alloc_new w _) ((Below.refl _ _).alloc (Nat.le_refl _) _)
    · have hi := Bool.eq_false_iff.2 hi
      have HV : Hid (Pl.namedTg 6 s.data.toList = ⟨6, 3, [], [], []⟩) := by show _ = _; unfold Pl.namedTg; simp [hi]
      rw [HV.out]
      clear HV
      go_enter Tryz.func195, Tryz.ntmps195
      go_wp2_with (go_at_call 72; refine (isIdentifier_any s _).mono ?_; rintro e w' ⟨rfl, rfl⟩; rw [hi])
      exact tg_post (r := ⟨6, 3, [], [], []⟩) Tryz.results195 rfl rfl (heap_alloc_new w _) ((Below.refl _ _).alloc (Nat.le_refl _) _)
  · have c6 : ¬ (k : Int) = 6 := by omega
    by_cases hi : Pl.isNm s.data.toList = true
    · have HV : Hid (Pl.namedTg k s.data.toList = ⟨k, 0, s.data.toList, [], []⟩) := by show _ = _; unfold Pl.namedTg; simp [hi, h6]
      rw [HV.out]
      clear HV
      rw [hi] at HB
      clear h6
      go_enter Tryz.func195, Tryz.ntmps195
      go_wp2_with (go_at_call 230; refine Calls.mono (HB.out _) ?_; rintro e w' ⟨rfl, hb⟩; have hS := (tgSlot_new w).next hb; obtain ⟨⟨k0, k1, k2, k3, k4⟩, f0, f1, f2, f3, f4⟩ := hS.facts; have HS := (show Hid _ from hS); clear hb hS)
      exact tg_post5 (w0 := w) ⟨k, 0, s.data.toList, [], []⟩ Tryz.results195 rfl rfl HS.out rfl
    · have hi := Bool.eq_false_iff.2 hi
      have HV : Hid (Pl.namedTg k s.data.toList = ⟨k, 3, [], [], []⟩) := by show _ = _; unfold Pl.namedTg; simp [hi, h6]
      rw [HV.out]
      clear HV
      rw [hi] at HB
      clear h6
      go_enter Tryz.func195, Tryz.ntmps195
      go_wp2_with (go_at_call 230; refine Calls.mono (HB.out _) ?_; rintro e w' ⟨rfl, hb⟩; have hS := (tgSlot_new w).next hb; obtain ⟨⟨k0, k1, k2, k3, k4⟩, f0, f1, f2, f3, f4⟩ := hS.facts; have HS := (show Hid _ from hS); clear hb hS)
      exact tg_post5 (w0 := w) ⟨k, 3, [], [], []⟩ Tryz.results195 rfl rfl HS.out rfl

end Go.Proofs.YtfkhljmiehdgmaaGreatDoor

/-
  The walks of package tags: a text is put behind the parts.
-/
namespace Go.Proofs.YtfkhljmiehdgmaaGreatDoor
open Go.RowKit

theorem info_part : (Tryz.prog.info? 229).map (fun i => (i.zero, i.size, i.bytes)) = some (some (.agg #[.int .i64 0, .int .i64 0, .string ⟨#[]⟩, .int .i64 0]), 4, 40) := by kernel_rfl
theorem info_int' : (Tryz.prog.info? 3).map (fun i => (i.zero, i.size, i.bytes)) = some (some (.int .i64 0), 1, 8) := by kernel_rfl
theorem part_cells : (Value.agg #[.int .i64 0, .int .i64 0, .string ⟨#[]⟩, .int .i64 0]).cells.size = 4 := rfl
theorem bs_extract (t : List UInt8) (a z : Nat) : (⟨t.toArray⟩ : ByteArray).extract a z = ⟨((t.drop a).take (z - a)).toArray⟩ := by
  rw [Lib.extract_eq]

set_option maxRecDepth 100000 in
set_option maxHeartbeats 3200000 in
theorem addText_any (w : World) (B g : Nat) (t : List UInt8) (c : Pl.Ct) (vp vo : Value) (a z : Nat) (h : CtAt w B g t c vp vo) (hz : z ≤ t.length) (hn : c.parts.length ≤ 4000) :
    Calls Tryz.prog 147 #[.pointer (some ⟨g, 0, none⟩), .int .i64 a, .int .i64 z] w fun e w' => (∃ r, e = .returned r) ∧ CtTo w w' B g t (c.addText t a z) := by
  by_cases haz : a < z
  rotate_left
  · have HV : Hid (c.addText t a z = c) := by show _ = _; unfold Pl.Ct.addText; rw [if_neg haz]
    have c1 : ¬ (a : Int) < (z : Int) := by omega
    rw [HV.out]
    have H := (show Hid _ from h)
    clear HV haz h
    go_enter Tryz.func147, Tryz.ntmps147
    go_wp2_with fail
    go_end0
    exact ⟨⟨_, rfl⟩, ⟨⟨vp, vo, H.out⟩, Cur.refl _ _ _⟩⟩
  have HV : Hid (c.addText t a z = { c with parts := c.parts ++ [⟨1, a, (t.drop a).take (z - a), 0⟩] }) := by show _ = _; unfold Pl.Ct.addText; rw [if_pos haz]
  rw [HV.out]
  obtain ⟨T, hT⟩ : ∃ T, T = (⟨t.toArray⟩ : ByteArray) := ⟨_, rfl⟩
  have hTs : T.size = t.length := by rw [hT]; simp [ByteArray.size]
  have HX : Hid (∀ x : ByteArray, x = T.extract a z → Value.string x = bs ((t.drop a).take (z - a))) := by
    rintro x rfl
    rw [hT, bs_extract]; rfl
  obtain ⟨i0, hi, hz0, hz1, hz2⟩ := info_parts info_part
  have c1 : (a : Int) < (z : Int) := by omega
  have c2 : (z : Int) ≤ (T.size : Int) := by omega
  have c3 : (a : Int) ≤ (z : Int) := by omega
  have b0 := h.cell 0 _ rfl
  have b3 := h.cell 3 _ rfl
  have f3 := h.thaw 3
  have b4 : (w.alloc (.cells #[.int .i64 1, .int .i64 a, .string (T.extract a z), .int .i64 0] 229)).cell? ⟨g, 3, none⟩ = some vp := (h.alloc _).cell 3 _ rfl
  unfold bs at b0
  rw [← hT] at b0
  have hBle : B ≤ w.heap.size := by have := h.lt; have := h.le; omega
  have H := (show Hid _ from h)
  clear HV haz h hT
  go_enter Tryz.func147, Tryz.ntmps147
  go_wp2_with fail
  go_region_law (refine step_append_own rfl (.tmp 13) (.tmp 23) 168 rfl B 229 i0 (.agg #[.int .i64 0, .int .i64 0, .string ⟨#[]⟩, .int .i64 0]) 4 40 Tryz.underlying168 hi hz0 hz1 hz2 part_cells (by decide) vp c.parts.length _ (by simp [Act.eval]) (World.ownsRow.alloc H.out.parts _) ⟨_, 0, none⟩ 1 1 [.int .i64 1, .int .i64 a, .string (T.extract a z), .int .i64 0] (by simp [Act.eval]) rfl (news_at _ _ _) (by simp [Value.oneCell']) (by unfold maxLen; omega) (by omega) (by simp; omega) ?_; intro v' w' hown hgr hloc; obtain ⟨g', cap', rfl, _, _⟩ := ownsRow_form hown (by omega); obtain ⟨q3, r3⟩ := H.out.ahead (((Below.refl _ _).alloc (Nat.le_refl _) _).drew) (.inl rfl) hgr 3 _ rfl)
  all_goals
    go_end0
    rw [HX.out _ rfl] at hown
    exact ⟨⟨_, rfl⟩, H.out.moreTo (((Below.refl _ _).alloc (Nat.le_refl _) _).drew) ⟨1, a, _, 0⟩ hown hgr⟩

end Go.Proofs.YtfkhljmiehdgmaaGreatDoor

/-
  The walks of package tags: the slip of a text that ends.
-/
namespace Go.Proofs.YtfkhljmiehdgmaaGreatDoor
open Go.RowKit

theorem ownsRow_shape {w : World} {B n k : Nat} {e : TypeId} {v : Value} {xs : List Value} (h : w.ownsRow B e k v n xs) : ∃ ao cap, v = .slice ao n cap := by
  rcases h.2 with ⟨rfl, rfl⟩ | ⟨g, cap, cur, hv, _⟩
  · exact ⟨none, 0, rfl⟩
  · exact ⟨_, _, hv⟩
theorem ownsRow_at {w : World} {B n k g cap : Nat} {e : TypeId} {xs : List Value} (h : w.ownsRow B e k (.slice (some ⟨g, 0, none⟩) n cap) n xs) (j : Nat) (u : Value) (hu : xs[j]? = some u) : w.cell? ⟨g, j, none⟩ = some u := by
  have := World.ownsRow.cells h (g := g) rfl j u hu
  have e : (⟨g, 0, none⟩ : Addr).add j = ⟨g, j, none⟩ := by simp only [Addr.add, Nat.zero_add]; split <;> simp_all
  rw [e] at this
  exact this
theorem natCells_at (L : List Nat) (k m : Nat) (h : L[k]? = some m) : (natCells L)[k]? = some (.int .i64 m) := by simp [natCells, h]

theorem wrap_nat (k : Nat) (h : k ≤ 1000000000) : IntKind.i64.wrap (k : Int) = k := by
  rw [IntKind.wrap_i64]
  omega
def slipVal (k p : Nat) : Value := .agg #[.int .i64 k, .int .i64 p]

set_option maxRecDepth 100000 in
set_option maxHeartbeats 3200000 in
theorem leftOpen_any (w : World) (B g : Nat) (t : List UInt8) (c : Pl.Ct) (vp vo : Value) (h : CtAt w B g t c vp vo) (hO : ∀ m ∈ c.opened, m < c.parts.length) (hn : c.parts.length ≤ 4000) (h6 : c.opened.length ≤ 6) :
    Calls Tryz.prog 148 #[.pointer (some ⟨g, 0, none⟩)] w fun e w' => e = .returned (slipVal c.left.1 c.left.2) ∧ Below w.heap.size w w' := by
  have b3 : ∀ o, (w.alloc o).cell? ⟨g, 3, none⟩ = some vp := fun o => (h.alloc o).cell 3 _ rfl
  have b4 : ∀ o, (w.alloc o).cell? ⟨g, 4, none⟩ = some vo := fun o => (h.alloc o).cell 4 _ rfl
  by_cases h0 : c.opened.length = 0
  · have HV : Hid (c.left = (0, 0)) := by show _ = _; unfold Pl.Ct.left; rw [List.length_eq_zero_iff.1 h0]; rfl
    obtain ⟨ao, cap, rfl⟩ := ownsRow_shape h.opened
    rw [HV.out]
    rw [h0] at b4
    clear HV h hO hn h6 h0
    unfold slipVal
    go_enter Tryz.func148, Tryz.ntmps148
    go_wp2_with fail
    refine bodyPost_ret (results_cell Tryz.results148 _ _ w.heap.size _ _ rfl (cells_at_block (heap_alloc_new w _)) Tryz.underlying169 rfl (by kernel_rfl)) rfl ?_
    exact ⟨rfl, (Below.refl _ _).alloc (Nat.le_refl _) _⟩
  · obtain ⟨k, hk⟩ : ∃ k, c.opened.length = k + 1 := ⟨c.opened.length - 1, by omega⟩
    have hx : c.opened[k]? = some c.opened[k] := List.getElem?_eq_getElem (by omega)
    have hl : c.opened.getLast? = some c.opened[k] := by rw [List.getLast?_eq_getElem?, show c.opened.length - 1 = k by omega]; exact hx
    have hm := hO _ (List.mem_of_getElem? hx)
    generalize c.opened[k] = m at hx hl hm
    have hp : c.parts[m]? = some c.parts[m] := List.getElem?_eq_getElem hm
    have HV : Hid (c.left = (7, c.parts[m].pos)) := by show _ = _; unfold Pl.Ct.left Pl.posAt; rw [hl]; simp only; rw [hp]
    generalize c.parts[m] = p at hp HV
    obtain ⟨go, capo, hvo, hgo, hgo2⟩ := ownsRow_form h.opened (by omega)
    obtain ⟨gp, capp, hvp, hgp, hgp2⟩ := ownsRow_form h.parts (by omega)
    have q4 : ∀ o, (w.alloc o).cell? ⟨go, k, none⟩ = some (.int .i64 m) := fun o => ownsRow_at (hvo ▸ (h.alloc o).opened) k _ (natCells_at _ _ _ hx)
    have q3 : ∀ o, (w.alloc o).cell? ⟨gp, m * 4 + 1, none⟩ = some (.int .i64 p.pos) := fun o => ownsRow_at (hvp ▸ (h.alloc o).parts) _ _ (ptCells_at _ _ _ hp 1 _ rfl)
    rw [hvo, hk] at b4
    rw [hvp] at b3
    rw [HV.out]
    have d1 : (m : Int) < (c.parts.length : Int) := by omega
    generalize c.parts.length = N at b3 d1
    have w1 : IntKind.i64.wrap (k : Int) = k := wrap_nat k (by omega)
    clear HV h hO hn hgo hgo2 hgp hgp2 hvo hvp hx hl hp hm h0 hk
    unfold slipVal
    go_enter Tryz.func148, Tryz.ntmps148
    go_wp2_with fail
    go_region
    go_wp2_with fail
    refine bodyPost_ret (results_cell Tryz.results148 _ _ w.heap.size _ _ rfl (cells_at_block (heap_alloc_new w _)) Tryz.underlying169 rfl (by kernel_rfl)) rfl ?_
    exact ⟨rfl, ((Below.refl _ _).alloc (Nat.le_refl _) _).drew⟩

end Go.Proofs.YtfkhljmiehdgmaaGreatDoor

/-
  The walks of package tags: what a tag does, where it opens and ends nothing.
-/
namespace Go.Proofs.YtfkhljmiehdgmaaGreatDoor
open Go.RowKit

/-- the facts of the cutter's block that a walk asks for behind two new blocks -/
theorem CtAt.two {w : World} {B g : Nat} {t : List UInt8} {c : Pl.Ct} {vp vo : Value} (h : CtAt w B g t c vp vo) (j : Nat) (v : Value) (hv : [bs t, bs c.op, bs c.cl, vp, vo][j]? = some v) : ∀ o o', ((w.alloc o).alloc o').cell? ⟨g, j, none⟩ = some v := fun o o' => ((h.alloc o).alloc o').cell j v hv
theorem CtAt.two' {w : World} {B g : Nat} {t : List UInt8} {c : Pl.Ct} {vp vo : Value} (h : CtAt w B g t c vp vo) (j : Nat) : ∀ o o', ((w.alloc o).alloc o').frozen? ⟨g, j, none⟩ = false := fun o o' => ((h.alloc o).alloc o').thaw j
theorem CtAt.to {w w' : World} {B g : Nat} {t : List UInt8} {c : Pl.Ct} {vp vo : Value} (h : CtAt w B g t c vp vo) (hb : Below w.heap.size w w') : CtTo w w' B g t c := ⟨⟨_, _, h.below hb⟩, Cur.of_below hb (Nat.le_trans h.le (Nat.le_of_lt h.lt))⟩

set_option maxRecDepth 100000 in
set_option maxHeartbeats 3200000 in
theorem take_slip (w : World) (B g : Nat) (t : List UInt8) (c : Pl.Ct) (vp vo : Value) (h : CtAt w B g t c vp vo) (one : Pl.Tg) (a : Nat) (hs : one.slip ≠ 0) :
    Calls Tryz.prog 152 #[.pointer (some ⟨g, 0, none⟩), tgVal one, .int .i64 a] w fun e w' => e = .returned (.int .i64 (c.take one a).1) ∧ CtTo w w' B g t (c.take one a).2 := by
  have HV : Hid (c.take one a = (one.slip, c)) := by show _ = _; unfold Pl.Ct.take; rw [if_pos hs]
  rw [HV.out]
  have H := (show Hid _ from h)
  have c1 : ¬ (one.slip : Int) = 0 := by omega
  clear HV h hs
  unfold tgVal bs
  go_enter Tryz.func152, Tryz.ntmps152
  go_wp2_with fail
  go_ret
  exact ⟨rfl, H.out.to ((Below.refl _ _).alloc (Nat.le_refl _) _)⟩

set_option maxRecDepth 100000 in
set_option maxHeartbeats 3200000 in
theorem take_comment (w : World) (B g : Nat) (t : List UInt8) (c : Pl.Ct) (vp vo : Value) (h : CtAt w B g t c vp vo) (n op cl : List UInt8) (a : Nat) :
    Calls Tryz.prog 152 #[.pointer (some ⟨g, 0, none⟩), tgVal ⟨7, 0, n, op, cl⟩, .int .i64 a] w fun e w' => e = .returned (.int .i64 (0 : Nat)) ∧ CtTo w w' B g t c := by
  have H := (show Hid _ from h)
  clear h
  unfold tgVal bs
  go_enter Tryz.func152, Tryz.ntmps152
  go_wp2_with fail
  go_ret
  exact ⟨rfl, H.out.to (((Below.refl _ _).alloc (Nat.le_refl _) _).alloc (by simp) _)⟩

set_option maxRecDepth 100000 in
set_option maxHeartbeats 3200000 in
theorem take_leaf (w : World) (B g : Nat) (t : List UInt8) (c : Pl.Ct) (vp vo : Value) (h : CtAt w B g t c vp vo) (k : Nat) (n op cl : List UInt8) (a : Nat) (hk : k = 2 ∨ k = 6) (hn : c.parts.length ≤ 4000) :
    Calls Tryz.prog 152 #[.pointer (some ⟨g, 0, none⟩), tgVal ⟨k, 0, n, op, cl⟩, .int .i64 a] w fun e w' => e = .returned (.int .i64 (0 : Nat)) ∧ CtTo w w' B g t { c with parts := c.parts ++ [⟨k, a, n, 0⟩] } := by
  obtain ⟨i0, hi, hz0, hz1, hz2⟩ := info_parts info_part
  have b3 := h.two 3 _ rfl
  have f3 := h.two' 3
  have b4 : ∀ o o' o'', (((w.alloc o).alloc o').alloc o'').cell? ⟨g, 3, none⟩ = some vp := fun o o' o'' => (((h.alloc o).alloc o').alloc o'').cell 3 _ rfl
  have hBle : B ≤ w.heap.size := by have := h.lt; have := h.le; omega
  have H := (show Hid _ from h)
  clear h
  unfold tgVal bs
  rcases hk with rfl | rfl
  all_goals
    go_enter Tryz.func152, Tryz.ntmps152
    go_wp2_with fail
    go_region_law (refine step_append_own rfl (.tmp 119) (.tmp 121) 168 rfl B 229 i0 (.agg #[.int .i64 0, .int .i64 0, .string ⟨#[]⟩, .int .i64 0]) 4 40 Tryz.underlying168 hi hz0 hz1 hz2 part_cells (by decide) vp c.parts.length _ (by simp [Act.eval]) (World.ownsRow.alloc (World.ownsRow.alloc (World.ownsRow.alloc H.out.parts _) _) _) ⟨_, 0, none⟩ 1 1 [_, .int .i64 a, .string ⟨n.toArray⟩, .int .i64 0] (by simp [Act.eval]) rfl (news_at _ _ _) (by simp [Value.oneCell']) (by unfold maxLen; omega) (by omega) (by simp; omega) ?_; intro v' w' hown hgr hloc; obtain ⟨g', cap', rfl, _, _⟩ := ownsRow_form hown (by omega); obtain ⟨q3, r3⟩ := H.out.ahead ((((Below.refl _ _).alloc (Nat.le_refl _) _).alloc (by simp) _).alloc (by simp <;> omega) _).drew (.inl rfl) hgr 3 _ rfl)
    all_goals
      go_wp2_with fail
      go_ret
      exact ⟨rfl, H.out.moreTo ((((Below.refl _ _).alloc (Nat.le_refl _) _).alloc (by simp) _).alloc (by simp <;> omega) _).drew ⟨_, a, n, 0⟩ hown hgr⟩

set_option maxRecDepth 100000 in
set_option maxHeartbeats 3200000 in
theorem take_full (w : World) (B g : Nat) (t : List UInt8) (c : Pl.Ct) (vp vo : Value) (h : CtAt w B g t c vp vo) (k : Nat) (n op cl : List UInt8) (a : Nat) (hk : k = 3 ∨ k = 4) (h6 : c.opened.length = 6) :
    Calls Tryz.prog 152 #[.pointer (some ⟨g, 0, none⟩), tgVal ⟨k, 0, n, op, cl⟩, .int .i64 a] w fun e w' => e = .returned (.int .i64 (8 : Nat)) ∧ CtTo w w' B g t c := by
  obtain ⟨ao, cap, hvo⟩ := ownsRow_shape h.opened
  have b4 := h.two 4 _ rfl
  rw [hvo, h6] at b4
  have H := (show Hid _ from h)
  clear h h6 hvo
  unfold tgVal bs
  rcases hk with rfl | rfl
  all_goals
    go_enter Tryz.func152, Tryz.ntmps152
    go_wp2_with fail
    go_ret
    exact ⟨rfl, H.out.to (((Below.refl _ _).alloc (Nat.le_refl _) _).alloc (by simp) _)⟩

set_option maxRecDepth 100000 in
set_option maxHeartbeats 3200000 in
theorem take_stray (w : World) (B g : Nat) (t : List UInt8) (c : Pl.Ct) (vp vo : Value) (h : CtAt w B g t c vp vo) (n op cl : List UInt8) (a : Nat) (h6 : c.opened.length = 0) :
    Calls Tryz.prog 152 #[.pointer (some ⟨g, 0, none⟩), tgVal ⟨5, 0, n, op, cl⟩, .int .i64 a] w fun e w' => e = .returned (.int .i64 (5 : Nat)) ∧ CtTo w w' B g t c := by
  obtain ⟨ao, cap, hvo⟩ := ownsRow_shape h.opened
  have b4 := h.two 4 _ rfl
  rw [hvo, h6] at b4
  have H := (show Hid _ from h)
  clear h h6 hvo
  unfold tgVal bs
  go_enter Tryz.func152, Tryz.ntmps152
  go_wp2_with fail
  go_ret
  exact ⟨rfl, H.out.to (((Below.refl _ _).alloc (Nat.le_refl _) _).alloc (by simp) _)⟩

end Go.Proofs.YtfkhljmiehdgmaaGreatDoor

/-
  The walks of package tags: a tag that turns what opens and closes, a tag that begins a section.
-/
namespace Go.Proofs.YtfkhljmiehdgmaaGreatDoor
open Go.RowKit

theorem CtAt.delims {w : World} {B g : Nat} {t : List UInt8} {c : Pl.Ct} {vp vo : Value} (h : CtAt w B g t c vp vo) (op cl : List UInt8) :
    CtTo w ((w.setCell ⟨g, 1, none⟩ (bs op)).setCell ⟨g, 2, none⟩ (bs cl)) B g t { c with op := op, cl := cl } := by
  have hset : ∀ k, k ≠ g → ((w.setCell ⟨g, 1, none⟩ (bs op)).setCell ⟨g, 2, none⟩ (bs cl)).heap[k]? = w.heap[k]? := fun k hk => (Below.heap_setCell _ _ _ _ hk).trans (Below.heap_setCell _ _ _ _ hk)
  refine ⟨⟨vp, vo, ?_, ?_, ?_, h.le⟩, ?_, fun k cs ty fz hk h1 h2 h3 => hset k h1⟩
  · rw [heap_setCell_same _ _ _ _ _ _ (heap_setCell_same _ _ _ _ _ _ h.blk)]; rfl
  · refine ownsRow_same h.parts fun k hk => hset k ?_
    obtain ⟨cur, hc⟩ := ownsRow_ty h.parts k hk
    exact fun e => ty_apart h.blk hc ty_ct_part e.symm
  · refine ownsRow_same h.opened fun k hk => hset k ?_
    obtain ⟨cur, hc⟩ := ownsRow_ty h.opened k hk
    exact fun e => ty_apart h.blk hc ty_ct_int e.symm
  · exact ((Below.refl _ _).setCell (p := ⟨g, 1, none⟩) h.le _).setCell (p := ⟨g, 2, none⟩) h.le _
theorem CtAt.delims' {w : World} {B g : Nat} {t : List UInt8} {c : Pl.Ct} {vp vo : Value} (h : CtAt w B g t c vp vo) (op cl : List UInt8) :
    CtTo w ((w.setCell ⟨g, 2, none⟩ (bs cl)).setCell ⟨g, 1, none⟩ (bs op)) B g t { c with op := op, cl := cl } := by
  have hset : ∀ k, k ≠ g → ((w.setCell ⟨g, 2, none⟩ (bs cl)).setCell ⟨g, 1, none⟩ (bs op)).heap[k]? = w.heap[k]? := fun k hk => (Below.heap_setCell _ _ _ _ hk).trans (Below.heap_setCell _ _ _ _ hk)
  refine ⟨⟨vp, vo, ?_, ?_, ?_, h.le⟩, ?_, fun k cs ty fz hk h1 h2 h3 => hset k h1⟩
  · rw [heap_setCell_same _ _ _ _ _ _ (heap_setCell_same _ _ _ _ _ _ h.blk)]; rfl
  · refine ownsRow_same h.parts fun k hk => hset k ?_
    obtain ⟨cur, hc⟩ := ownsRow_ty h.parts k hk
    exact fun e => ty_apart h.blk hc ty_ct_part e.symm
  · refine ownsRow_same h.opened fun k hk => hset k ?_
    obtain ⟨cur, hc⟩ := ownsRow_ty h.opened k hk
    exact fun e => ty_apart h.blk hc ty_ct_int e.symm
  · exact ((Below.refl _ _).setCell (p := ⟨g, 2, none⟩) h.le _).setCell (p := ⟨g, 1, none⟩) h.le _
theorem CtTo.after {w w0 w' : World} {B g : Nat} {t : List UInt8} {c : Pl.Ct} (hc : Cur B g w w0) (h : CtTo w0 w' B g t c) : CtTo w w' B g t c := ⟨h.ex, hc.trans h.cur⟩

/-- behind the append onto the places and the store: what is new stands still -/
theorem CtAt.pushAt {w w0 w' : World} {B g : Nat} {t : List UInt8} {c : Pl.Ct} {vp vo vo' : Value} (h : CtAt w B g t c vp vo) (hb0 : Below w.heap.size w w0) (n : Nat) (hown : w'.ownsRow B 3 1 vo' (c.opened.length + 1) (natCells c.opened ++ [.int .i64 n])) (hgr : w0.grownBy w' vo.ownBlock) :
    CtAt (w'.setCell ⟨g, 4, none⟩ vo') B g t { c with opened := c.opened ++ [n] } vp vo' ∧ Cur B g w (w'.setCell ⟨g, 4, none⟩ vo') ∧ ∀ k x, w0.heap[k]? = some x → w.heap.size ≤ k → (w'.setCell ⟨g, 4, none⟩ vo').heap[k]? = some x := by
  obtain ⟨h1, h2⟩ := (h.below hb0).push n hown hgr
  refine ⟨h1, (Cur.of_below hb0 (Nat.le_trans h.le (Nat.le_of_lt h.lt))).trans h2, fun k x hk hle => ?_⟩
  refine (Below.heap_setCell _ _ _ _ (by have := h.lt; simp only; omega)).trans ((hgr.block k (Array.getElem?_eq_some_iff.1 hk).1 (fun e => ?_)).trans hk)
  have := (h.opened.lt k e.symm).2
  omega

set_option maxRecDepth 100000 in
set_option maxHeartbeats 3200000 in
theorem take_delims (w : World) (B g : Nat) (t : List UInt8) (c : Pl.Ct) (vp vo : Value) (h : CtAt w B g t c vp vo) (n op cl : List UInt8) (a : Nat) :
    Calls Tryz.prog 152 #[.pointer (some ⟨g, 0, none⟩), tgVal ⟨8, 0, n, op, cl⟩, .int .i64 a] w fun e w' => e = .returned (.int .i64 (0 : Nat)) ∧ CtTo w w' B g t { c with op := op, cl := cl } := by
  have b1 := h.two 1 _ rfl
  have b2 := h.two 2 _ rfl
  have f1 := h.two' 1
  have f2 := h.two' 2
  have hBle : B ≤ w.heap.size := by have := h.lt; have := h.le; omega
  have H := (show Hid _ from h)
  clear h
  unfold tgVal bs at *
  go_enter Tryz.func152, Tryz.ntmps152
  go_wp2_with fail
  go_region
  all_goals
    go_wp2_with fail
    go_ret
    have hb := (((Below.refl w.heap.size w).alloc (Nat.le_refl _) (.cells #[.int .i64 8, .int .i64 0, .string ⟨n.toArray⟩, .string ⟨op.toArray⟩, .string ⟨cl.toArray⟩] 274)).alloc (by simp) (.cells #[.int .i64 8, .int .i64 a, .string ⟨n.toArray⟩, .int .i64 0] 229)).drew
    first
      | exact ⟨rfl, CtTo.after (Cur.of_below hb hBle) (CtAt.delims (CtAt.below H.out hb) op cl)⟩
      | exact ⟨rfl, CtTo.after (Cur.of_below hb hBle) (CtAt.delims' (CtAt.below H.out hb) op cl)⟩

theorem tg_new_at (w : World) (o : Obj) (g : Nat) (h : w.heap.size = g) : (w.alloc o).heap[g]? = some o := by
  subst h
  exact heap_alloc_new w o

end Go.Proofs.YtfkhljmiehdgmaaGreatDoor

/-
  The walks of package tags: a tag that begins a section.
-/
namespace Go.Proofs.YtfkhljmiehdgmaaGreatDoor
open Go.RowKit

set_option maxRecDepth 100000 in
set_option maxHeartbeats 3200000 in
theorem take_push (w : World) (B g : Nat) (t : List UInt8) (c : Pl.Ct) (vp vo : Value) (h : CtAt w B g t c vp vo) (k : Nat) (n op cl : List UInt8) (a : Nat) (hk : k = 3 ∨ k = 4) (h6 : c.opened.length < 6) (hn : c.parts.length ≤ 4000) :
    Calls Tryz.prog 152 #[.pointer (some ⟨g, 0, none⟩), tgVal ⟨k, 0, n, op, cl⟩, .int .i64 a] w fun e w' => e = .returned (.int .i64 (0 : Nat)) ∧ CtTo w w' B g t { c with parts := c.parts ++ [⟨k, a, n, 0⟩], opened := c.opened ++ [c.parts.length] } := by
  obtain ⟨i0, hi, hz0, hz1, hz2⟩ := info_parts info_part
  obtain ⟨i1, hj, hy0, hy1, hy2⟩ := info_parts info_int'
  obtain ⟨ao, cap, hvo⟩ := ownsRow_shape h.opened
  obtain ⟨ap, capp, hvp⟩ := ownsRow_shape h.parts
  have b3 := h.two 3 _ rfl
  have b4 := h.two 4 _ rfl
  have f4 := h.two' 4
  have b3' : ∀ o o' o'', (((w.alloc o).alloc o').alloc o'').cell? ⟨g, 3, none⟩ = some vp := fun o o' o'' => (((h.alloc o).alloc o').alloc o'').cell 3 _ rfl
  have b4' : ∀ o o' o'', (((w.alloc o).alloc o').alloc o'').cell? ⟨g, 4, none⟩ = some vo := fun o o' o'' => (((h.alloc o).alloc o').alloc o'').cell 4 _ rfl
  have hBle : B ≤ w.heap.size := by have := h.lt; have := h.le; omega
  have c6 : ¬ (c.opened.length : Int) = 6 := by omega
  subst hvo hvp
  have H := (show Hid _ from h)
  clear h
  unfold tgVal bs
  generalize hN : c.parts.length = N at *
  generalize hM : c.opened.length = M at *
  rcases hk with rfl | rfl
  all_goals
    go_enter Tryz.func152, Tryz.ntmps152
    go_wp2_with fail
    go_region_law (refine step_append_own rfl (.tmp 49) (.tmp 55) 36 rfl B 3 i1 (.int .i64 0) 1 8 Tryz.underlying36 hj hy0 hy1 hy2 rfl (by decide) (.slice ao M cap) M _ (by simp [Act.eval]) (World.ownsRow.alloc (World.ownsRow.alloc (World.ownsRow.alloc (hM ▸ H.out.opened) _) _) _) ⟨_, 0, none⟩ 1 1 [.int .i64 N] (by simp [Act.eval]) rfl (news_at _ _ _) (by simp [Value.oneCell']) (by unfold maxLen; omega) (by omega) (by simp; omega) ?_; intro v' w' hown hgr hloc; obtain ⟨g', cap', rfl, _, _⟩ := ownsRow_form hown (by omega); obtain ⟨q4, r4⟩ := H.out.ahead ((((Below.refl _ _).alloc (Nat.le_refl _) _).alloc (by simp) _).alloc (by simp <;> omega) _).drew (.inr rfl) hgr 4 _ rfl)
    all_goals
      subst hN hM
      obtain ⟨hP1, hP2, hP3⟩ := H.out.pushAt ((((Below.refl _ _).alloc (Nat.le_refl _) _).alloc (by simp) _).alloc (by simp <;> omega) _).drew c.parts.length hown hgr
      have kb := hP3 (w.heap.size + 1) _ ((heap_alloc_old _ _ (by simp)).trans (tg_new_at (w.alloc _) _ _ (by simp))) (by omega)
      clear hP3 hown hgr hloc b3 b4 b3' b4' f4 H q4 r4
      generalize w'.setCell ⟨g, 4, none⟩ (.slice (some ⟨g', 0, none⟩) (c.opened.length + 1) cap') = W2 at hP1 hP2 kb ⊢
      have k0 := cells_at_block kb 0 _ rfl
      have k1 := cells_at_block kb 1 _ rfl
      have k2 := cells_at_block kb 2 _ rfl
      have k3 := cells_at_block kb 3 _ rfl
      have b3 := hP1.cell 3 _ rfl
      have f3 := hP1.thaw 3
      have b3' : ∀ o, (W2.alloc o).cell? ⟨g, 3, none⟩ = some (.slice ap c.parts.length capp) := fun o => (hP1.alloc o).cell 3 _ rfl
      have hB2 : B ≤ W2.heap.size := by have := hP2.below.size; omega
      have H2 := (show Hid _ from hP1)
      have HC := (show Hid _ from hP2)
      clear hP1 hP2 kb
      go_wp2_with fail
      go_region_law (refine step_append_own rfl (.tmp 119) (.tmp 121) 168 rfl B 229 i0 (.agg #[.int .i64 0, .int .i64 0, .string ⟨#[]⟩, .int .i64 0]) 4 40 Tryz.underlying168 hi hz0 hz1 hz2 part_cells (by decide) (.slice ap c.parts.length capp) c.parts.length _ (by simp [Act.eval]) (World.ownsRow.alloc H2.out.parts _) ⟨_, 0, none⟩ 1 1 [_, .int .i64 a, .string ⟨n.toArray⟩, .int .i64 0] (by simp [Act.eval]) rfl (news_at _ _ _) (by simp [Value.oneCell']) (by unfold maxLen; omega) (by omega) (by simp; omega) ?_; intro v2 w3 hown2 hgr2 hloc2; obtain ⟨g3, cap3, rfl, _, _⟩ := ownsRow_form hown2 (by omega); obtain ⟨q3, r3⟩ := CtAt.ahead H2.out ((Below.refl _ _).alloc (Nat.le_refl _) _).drew (.inl rfl) hgr2 3 _ rfl)
      all_goals
        go_wp2_with fail
        go_ret
        exact ⟨rfl, CtTo.after HC.out (CtAt.moreTo H2.out ((Below.refl _ _).alloc (Nat.le_refl _) _).drew ⟨_, a, n, 0⟩ hown2 hgr2)⟩

end Go.Proofs.YtfkhljmiehdgmaaGreatDoor

/-
  The walks of package tags: a tag that ends a section.
-/
namespace Go.Proofs.YtfkhljmiehdgmaaGreatDoor
open Go.RowKit

/-- a section's part is told where it ends -/
theorem CtAt.mated {w : World} {B g gp N capp : Nat} {t : List UInt8} {c : Pl.Ct} {vo : Value} (h : CtAt w B g t c (.slice (some ⟨gp, 0, none⟩) N capp) vo) (m n : Nat) (hm : m < c.parts.length) :
    CtAt (w.setCell ⟨gp, m * 4 + 3, none⟩ (.int .i64 n)) B g t { c with parts := Pl.setMate c.parts m n } (.slice (some ⟨gp, 0, none⟩) N capp) vo ∧ Cur B g w (w.setCell ⟨gp, m * 4 + 3, none⟩ (.int .i64 n)) := by
  have hset : ∀ k, k ≠ gp → (w.setCell ⟨gp, m * 4 + 3, none⟩ (.int .i64 n)).heap[k]? = w.heap[k]? := fun k hk => Below.heap_setCell _ _ _ _ hk
  obtain ⟨cur, hc⟩ := ownsRow_ty h.parts gp rfl
  have hle := (h.parts.lt gp rfl).1
  refine ⟨⟨(hset g (ty_apart h.blk hc ty_ct_part)).trans h.blk, ?_, ?_, h.le⟩, ?_, ?_⟩
  · have hs : (Pl.setMate c.parts m n).length = c.parts.length := Pl.setMate_len _ _ _
    have hN : N = c.parts.length := by
      rcases h.parts.2 with ⟨h0, _⟩ | ⟨g', cap', cur', hv, _⟩
      · cases h0
      · injection hv
    subst hN
    show World.ownsRow _ _ _ _ _ (Pl.setMate c.parts m n).length (ptCells (Pl.setMate c.parts m n))
    rw [hs, ← ptCells_mate _ _ _ hm]
    exact (h.parts.stored (m * 4 + 3) (.int .i64 n)).1
  · refine ownsRow_same h.opened fun k hk => hset k ?_
    obtain ⟨cur', hc'⟩ := ownsRow_ty h.opened k hk
    exact fun e => ty_apart hc hc' ty_part_int e.symm
  · exact (Below.refl _ _).setCell (p := ⟨gp, m * 4 + 3, none⟩) hle _
  · intro k cs ty fz hk h1 h2 h3
    exact hset k (ty_apart hk hc h2)
/-- the last place is struck -/
theorem CtAt.popped {w : World} {B g go capo : Nat} {t : List UInt8} {c : Pl.Ct} {vp : Value} {M : Nat} (h : CtAt w B g t c vp (.slice (some ⟨go, 0, none⟩) M capo)) (k : Nat) (hk : c.opened.length = k + 1) :
    CtAt (w.setCell ⟨g, 4, none⟩ (.slice (some ⟨go, 0, none⟩) k capo)) B g t { c with opened := c.opened.dropLast } vp (.slice (some ⟨go, 0, none⟩) k capo) ∧ Cur B g w (w.setCell ⟨g, 4, none⟩ (.slice (some ⟨go, 0, none⟩) k capo)) := by
  have hset : ∀ k', k' ≠ g → (w.setCell ⟨g, 4, none⟩ (.slice (some ⟨go, 0, none⟩) k capo)).heap[k']? = w.heap[k']? := fun k' hk' => Below.heap_setCell _ _ _ _ hk'
  have hM : M = c.opened.length := by
    rcases h.opened.2 with ⟨h0, _⟩ | ⟨g', cap', cur', hv, _⟩
    · cases h0
    · injection hv
  subst hM
  have ht := ownsRow_take h.opened k (by omega)
  have e1 : (natCells c.opened).take (k * 1) = natCells c.opened.dropLast := by
    rw [Nat.mul_one, List.dropLast_eq_take, show c.opened.length - 1 = k by omega]; simp [natCells]
  have e2 : c.opened.dropLast.length = k := by simp; omega
  rw [e1] at ht
  refine ⟨⟨?_, ?_, ?_, h.le⟩, ?_, fun k' cs ty fz hk' h1 _ _ => hset k' h1⟩
  · rw [heap_setCell_same _ _ _ _ _ _ h.blk]; rfl
  · refine ownsRow_same h.parts fun k' hk' => hset k' ?_
    obtain ⟨cur', hc'⟩ := ownsRow_ty h.parts k' hk'
    exact fun e => ty_apart h.blk hc' ty_ct_part e.symm
  · show World.ownsRow _ _ _ _ _ c.opened.dropLast.length (natCells c.opened.dropLast)
    rw [e2]
    refine ownsRow_same ht fun k' hk' => hset k' ?_
    obtain ⟨cur', hc'⟩ := ownsRow_ty ht k' hk'
    exact fun e => ty_apart h.blk hc' ty_ct_int e.symm
  · exact (Below.refl _ _).setCell (p := ⟨g, 4, none⟩) h.le _

theorem bytes_beq_no {a b : List UInt8} (h : a ≠ b) : ((⟨a.toArray⟩ : ByteArray).toList == (⟨b.toArray⟩ : ByteArray).toList) = false := by
  rw [Lib.toList_data, Lib.toList_data]
  exact beq_eq_false_iff_ne.2 (by simpa using h)

set_option maxRecDepth 100000 in
set_option maxHeartbeats 3200000 in
theorem take_mismatch (w : World) (B g : Nat) (t : List UInt8) (c : Pl.Ct) (vp vo : Value) (h : CtAt w B g t c vp vo) (n op cl : List UInt8) (a k m : Nat) (hk : c.opened.length = k + 1) (hm : c.opened[k]? = some m) (p : Pl.Pt) (hp : c.parts[m]? = some p) (hne : p.text ≠ n) (h6 : c.opened.length ≤ 6) :
    Calls Tryz.prog 152 #[.pointer (some ⟨g, 0, none⟩), tgVal ⟨5, 0, n, op, cl⟩, .int .i64 a] w fun e w' => e = .returned (.int .i64 (6 : Nat)) ∧ CtTo w w' B g t c := by
  have hml : m < c.parts.length := (List.getElem?_eq_some_iff.1 hp).1
  obtain ⟨go, capo, hvo, _, _⟩ := ownsRow_form h.opened (by omega)
  obtain ⟨gp, capp, hvp, _, _⟩ := ownsRow_form h.parts (by omega)
  subst hvo hvp
  have b3 := h.two 3 _ rfl
  have b4 := h.two 4 _ rfl
  have q4 : ∀ o o', ((w.alloc o).alloc o').cell? ⟨go, k, none⟩ = some (.int .i64 m) := fun o o' => ownsRow_at ((h.alloc o).alloc o').opened k _ (natCells_at _ _ _ hm)
  have q2 : ∀ o o', ((w.alloc o).alloc o').cell? ⟨gp, m * 4 + 2, none⟩ = some (.string ⟨p.text.toArray⟩) := fun o o' => ownsRow_at ((h.alloc o).alloc o').parts _ _ (ptCells_at _ _ _ hp 2 _ rfl)
  have w1 : IntKind.i64.wrap (k : Int) = k := wrap_nat k (by omega)
  have d1 : (m : Int) < (c.parts.length : Int) := by omega
  have e1 := bytes_beq_no hne
  have H := (show Hid _ from h)
  rw [hk] at b4
  clear h hp hm
  unfold tgVal bs
  generalize (⟨p.text.toArray⟩ : ByteArray) = X at q2 e1
  generalize (⟨n.toArray⟩ : ByteArray) = Y at e1 ⊢
  generalize hN : c.parts.length = N at b3 d1
  clear hN hml h6 hne
  go_enter Tryz.func152, Tryz.ntmps152
  go_wp2_with fail
  go_region
  all_goals
    go_wp2_with fail
    go_ret
    exact ⟨rfl, H.out.to (((Below.refl _ _).alloc (Nat.le_refl _) _).alloc (by simp) _).drew⟩

end Go.Proofs.YtfkhljmiehdgmaaGreatDoor

/-
  The walks of package tags: a tag that ends a section that is open.
-/
namespace Go.Proofs.YtfkhljmiehdgmaaGreatDoor
open Go.RowKit

set_option maxRecDepth 100000 in
set_option maxHeartbeats 6400000 in
theorem take_pop (w : World) (B g : Nat) (t : List UInt8) (c : Pl.Ct) (vp vo : Value) (h : CtAt w B g t c vp vo) (n op cl : List UInt8) (a k m : Nat) (hk : c.opened.length = k + 1) (hm : c.opened[k]? = some m) (p : Pl.Pt) (hp : c.parts[m]? = some p) (hne : p.text = n) (h6 : c.opened.length ≤ 6) (hn : c.parts.length ≤ 4000) :
    Calls Tryz.prog 152 #[.pointer (some ⟨g, 0, none⟩), tgVal ⟨5, 0, n, op, cl⟩, .int .i64 a] w fun e w' => e = .returned (.int .i64 (0 : Nat)) ∧ CtTo w w' B g t { c with parts := Pl.setMate c.parts m c.parts.length ++ [⟨5, a, n, m⟩], opened := c.opened.dropLast } := by
  obtain ⟨i0, hi, hz0, hz1, hz2⟩ := info_parts info_part
  have hml : m < c.parts.length := (List.getElem?_eq_some_iff.1 hp).1
  obtain ⟨go, capo, hvo, _, _⟩ := ownsRow_form h.opened (by omega)
  obtain ⟨gp, capp, hvp, _, _⟩ := ownsRow_form h.parts (by omega)
  subst hvo hvp hne
  have b3 := h.two 3 _ rfl
  have b4 := h.two 4 _ rfl
  have q4 : ∀ o o', ((w.alloc o).alloc o').cell? ⟨go, k, none⟩ = some (.int .i64 m) := fun o o' => ownsRow_at ((h.alloc o).alloc o').opened k _ (natCells_at _ _ _ hm)
  have q2 : ∀ o o', ((w.alloc o).alloc o').cell? ⟨gp, m * 4 + 2, none⟩ = some (.string ⟨p.text.toArray⟩) := fun o o' => ownsRow_at ((h.alloc o).alloc o').parts _ _ (ptCells_at _ _ _ hp 2 _ rfl)
  have q3 : ∀ o o', ((w.alloc o).alloc o').cell? ⟨gp, m * 4 + 3, none⟩ = some (.int .i64 p.mate) := fun o o' => ownsRow_at ((h.alloc o).alloc o').parts _ _ (ptCells_at _ _ _ hp 3 _ rfl)
  have fq3 : ∀ o o', ((w.alloc o).alloc o').frozen? ⟨gp, m * 4 + 3, none⟩ = false := fun o o' => World.ownsRow.frozenAt ((h.alloc o).alloc o').parts _
  have w1 : IntKind.i64.wrap (k : Int) = k := wrap_nat k (by omega)
  have d1 : (m : Int) < (c.parts.length : Int) := by omega
  have hBle : B ≤ w.heap.size := by have := h.lt; have := h.le; omega
  have hgl : g < w.heap.size := h.lt
  have hcap : k + 1 ≤ capo := by
    rcases h.opened.2 with ⟨h0, _⟩ | ⟨g', cap', cur', hv, _, _, hc, _⟩
    · cases h0
    · injection hv with _ _ e; omega
  obtain ⟨h1, C1⟩ := h.mated m c.parts.length hml
  obtain ⟨h3, C3⟩ := h1.popped k hk
  have s4 := h1.two 4 _ rfl
  have fs4 := h1.two' 4
  have s3 := h3.two 3 _ rfl
  have fs3 := h3.two' 3
  have s3' : ∀ o o' o'', (((((w.setCell ⟨gp, m * 4 + 3, none⟩ (.int .i64 c.parts.length)).setCell ⟨g, 4, none⟩ (.slice (some ⟨go, 0, none⟩) k capo)).alloc o).alloc o').alloc o'').cell? ⟨g, 3, none⟩ = some (.slice (some ⟨gp, 0, none⟩) c.parts.length capp) := fun o o' o'' => (((h3.alloc o).alloc o').alloc o'').cell 3 _ rfl
  have hl : (Pl.setMate c.parts m c.parts.length).length = c.parts.length := Pl.setMate_len _ _ _
  have hB3 : B ≤ ((w.setCell ⟨gp, m * 4 + 3, none⟩ (.int .i64 c.parts.length)).setCell ⟨g, 4, none⟩ (.slice (some ⟨go, 0, none⟩) k capo)).heap.size := by simp; exact hBle
  have H3 := (show Hid _ from h3)
  have HR : Hid (World.ownsRow ((w.setCell ⟨gp, m * 4 + 3, none⟩ (.int .i64 c.parts.length)).setCell ⟨g, 4, none⟩ (.slice (some ⟨go, 0, none⟩) k capo)) B 229 4 (.slice (some ⟨gp, 0, none⟩) c.parts.length capp) c.parts.length (ptCells (Pl.setMate c.parts m c.parts.length))) := by
    have := h3.parts
    change World.ownsRow _ _ _ _ _ (Pl.setMate c.parts m c.parts.length).length (ptCells (Pl.setMate c.parts m c.parts.length)) at this
    rw [hl] at this
    exact this
  have HC := (show Hid _ from C1.trans C3)
  rw [hk] at b4
  have s4' : ∀ o o', (((w.setCell ⟨gp, m * 4 + 3, none⟩ (.int .i64 c.parts.length)).alloc o).alloc o').cell? ⟨g, 4, none⟩ = some (.slice (some ⟨go, 0, none⟩) (k + 1) capo) := fun o o' => by rw [← hk]; exact s4 o o'
  have d2 : (k : Int) ≤ (capo : Int) := by omega
  clear h hp hm hk h1 h3 C1 C3 s4
  unfold tgVal bs
  go_enter Tryz.func152, Tryz.ntmps152
  go_wp2_with fail
  go_region
  all_goals
    go_wp2_with fail
    go_region
    all_goals
      go_wp2_with fail
      go_region_law (refine step_append_own rfl (.tmp 119) (.tmp 121) 168 rfl B 229 i0 (.agg #[.int .i64 0, .int .i64 0, .string ⟨#[]⟩, .int .i64 0]) 4 40 Tryz.underlying168 hi hz0 hz1 hz2 part_cells (by decide) (.slice (some ⟨gp, 0, none⟩) c.parts.length capp) c.parts.length _ (by simp [Act.eval]) (World.ownsRow.alloc (World.ownsRow.alloc (World.ownsRow.alloc HR.out _) _) _) ⟨_, 0, none⟩ 1 1 [.int .i64 5, .int .i64 a, .string ⟨p.text.toArray⟩, .int .i64 m] (by simp [Act.eval]) rfl (news_at _ _ _) (by simp [Value.oneCell']) (by unfold maxLen; omega) (by omega) (by simp; omega) ?_; intro v' w' hown hgr hloc; obtain ⟨g', cap', rfl, _, _⟩ := ownsRow_form hown (by omega); obtain ⟨q5, r5⟩ := CtAt.ahead H3.out ((((Below.refl _ _).alloc (Nat.le_refl _) _).alloc (by simp) _).alloc (by simp <;> omega) _).drew.drew.drew (.inl rfl) hgr 3 _ rfl)
      all_goals
        go_wp2_with fail
        go_ret
        have hown' : World.ownsRow w' B 229 4 (.slice (some ⟨g', 0, none⟩) (c.parts.length + 1) cap') ((Pl.setMate c.parts m c.parts.length).length + 1) (ptCells (Pl.setMate c.parts m c.parts.length) ++ ptCells1 ⟨5, a, p.text, m⟩) := by rw [hl]; exact hown
        exact ⟨rfl, CtTo.after HC.out (CtAt.moreTo H3.out ((((Below.refl _ _).alloc (Nat.le_refl _) _).alloc (by simp) _).alloc (by simp <;> omega) _).drew.drew.drew ⟨5, a, p.text, m⟩ hown' hgr)⟩

end Go.Proofs.YtfkhljmiehdgmaaGreatDoor

/-
  The walks of package tags: what a tag does; blanks that are cut off.
-/
namespace Go.Proofs.YtfkhljmiehdgmaaGreatDoor
open Go.RowKit

theorem take_any (w : World) (B g : Nat) (t : List UInt8) (c : Pl.Ct) (vp vo : Value) (h : CtAt w B g t c vp vo) (one : Pl.Tg) (ho : Pl.TgOk one) (a : Nat) (hn : c.parts.length ≤ 4000) (h6 : c.opened.length ≤ 6) (hO : ∀ m ∈ c.opened, m < c.parts.length) :
    Calls Tryz.prog 152 #[.pointer (some ⟨g, 0, none⟩), tgVal one, .int .i64 a] w fun e w' => e = .returned (.int .i64 (c.take one a).1) ∧ CtTo w w' B g t (c.take one a).2 := by
  by_cases hs : one.slip ≠ 0
  · exact take_slip w B g t c vp vo h one a hs
  obtain ⟨kind, slip, n, op, cl⟩ := one
  obtain rfl : slip = 0 := by simpa using hs
  have hk := ho.kind
  simp only at hk
  rcases (show kind = 2 ∨ kind = 6 ∨ kind = 3 ∨ kind = 4 ∨ kind = 5 ∨ kind = 7 ∨ kind = 8 by omega) with rfl | rfl | rfl | rfl | rfl | rfl | rfl
  · exact take_leaf w B g t c vp vo h 2 n op cl a (.inl rfl) hn
  · exact take_leaf w B g t c vp vo h 6 n op cl a (.inr rfl) hn
  · by_cases hf : c.opened.length = 6
    · have e : c.take ⟨3, 0, n, op, cl⟩ a = (8, c) := by simp [Pl.Ct.take, hf]
      rw [e]; exact take_full w B g t c vp vo h 3 n op cl a (.inl rfl) hf
    · have e : c.take ⟨3, 0, n, op, cl⟩ a = (0, { c with parts := c.parts ++ [⟨3, a, n, 0⟩], opened := c.opened ++ [c.parts.length] }) := by simp [Pl.Ct.take, hf]
      rw [e]; exact take_push w B g t c vp vo h 3 n op cl a (.inl rfl) (by omega) hn
  · by_cases hf : c.opened.length = 6
    · have e : c.take ⟨4, 0, n, op, cl⟩ a = (8, c) := by simp [Pl.Ct.take, hf]
      rw [e]; exact take_full w B g t c vp vo h 4 n op cl a (.inr rfl) hf
    · have e : c.take ⟨4, 0, n, op, cl⟩ a = (0, { c with parts := c.parts ++ [⟨4, a, n, 0⟩], opened := c.opened ++ [c.parts.length] }) := by simp [Pl.Ct.take, hf]
      rw [e]; exact take_push w B g t c vp vo h 4 n op cl a (.inr rfl) (by omega) hn
  · by_cases h0 : c.opened.length = 0
    · have e : c.take ⟨5, 0, n, op, cl⟩ a = (5, c) := by simp [Pl.Ct.take, List.length_eq_zero_iff.1 h0]
      rw [e]; exact take_stray w B g t c vp vo h n op cl a h0
    · obtain ⟨k, hk⟩ : ∃ k, c.opened.length = k + 1 := ⟨c.opened.length - 1, by omega⟩
      have hx : c.opened[k]? = some c.opened[k] := List.getElem?_eq_getElem (by omega)
      have hl : c.opened.getLast? = some c.opened[k] := by rw [List.getLast?_eq_getElem?, show c.opened.length - 1 = k by omega]; exact hx
      have hm := hO _ (List.mem_of_getElem? hx)
      generalize c.opened[k] = m at hx hl hm
      have hp : c.parts[m]? = some c.parts[m] := List.getElem?_eq_getElem hm
      generalize c.parts[m] = p at hp
      have ht : Pl.textAt c.parts m = p.text := by unfold Pl.textAt; rw [hp]
      by_cases he : p.text = n
      · have e : c.take ⟨5, 0, n, op, cl⟩ a = (0, { c with parts := Pl.setMate c.parts m c.parts.length ++ [⟨5, a, n, m⟩], opened := c.opened.dropLast }) := by simp [Pl.Ct.take, hl, ht, he]
        rw [e]; exact take_pop w B g t c vp vo h n op cl a k m hk hx p hp he h6 hn
      · have e : c.take ⟨5, 0, n, op, cl⟩ a = (6, c) := by simp [Pl.Ct.take, hl, ht, he]
        rw [e]; exact take_mismatch w B g t c vp vo h n op cl a k m hk hx p hp he h6
  · exact take_comment w B g t c vp vo h n op cl a
  · exact take_delims w B g t c vp vo h n op cl a

theorem trimRight_line (s : ByteArray) (w : World) (hs : s.size ≤ 100000) :
    Calls Tryz.prog 204 #[.string s, .string ⟨#[9, 12, 13, 32]⟩] w fun e w' => e = .returned (bs (Lib.trimRightS s.data.toList Pl.lineBl)) ∧ Below w.heap.size w w' :=
  Any.strings_TrimRight_laid Tryz.lays162 (by kernel_rfl) s ⟨#[9, 12, 13, 32]⟩ w (by omega) (by decide) (ascii_of_all (by decide))
theorem trimLeft_line (s : ByteArray) (w : World) :
    Calls Tryz.prog 196 #[.string s, .string ⟨#[9, 12, 13, 32]⟩] w fun e w' => e = .returned (bs (Lib.trimLeftS s.data.toList Pl.lineBl)) ∧ Below w.heap.size w w' :=
  Any.strings_TrimLeft_laid Tryz.lays161 (by kernel_rfl) s ⟨#[9, 12, 13, 32]⟩ w (by decide) (ascii_of_all (by decide))
theorem trimLeft_blanks (s : ByteArray) (w : World) :
    Calls Tryz.prog 196 #[.string s, .string ⟨#[9, 10, 12, 13, 32]⟩] w fun e w' => e = .returned (bs (Lib.trimLeftS s.data.toList Pl.blanks5)) ∧ Below w.heap.size w w' :=
  Any.strings_TrimLeft_laid Tryz.lays161 (by kernel_rfl) s ⟨#[9, 10, 12, 13, 32]⟩ w (by decide) (ascii_of_all (by decide))
theorem trim_blanks (s : ByteArray) (w : World) (hs : s.size ≤ 100000) :
    Calls Tryz.prog 150 #[.string s, .string ⟨#[9, 10, 12, 13, 32]⟩] w fun e w' => e = .returned (bs (Lib.trimS s.data.toList Pl.blanks5)) ∧ Below w.heap.size w w' :=
  Any.strings_Trim_laid Tryz.lays160 (by kernel_rfl) s ⟨#[9, 10, 12, 13, 32]⟩ w (by omega) (by decide) (ascii_of_all (by decide))

end Go.Proofs.YtfkhljmiehdgmaaGreatDoor

/-
  The walks of package tags: what a tag's content says (but of one that turns what opens and closes).
-/
namespace Go.Proofs.YtfkhljmiehdgmaaGreatDoor
open Go.RowKit

set_option maxRecDepth 100000 in
set_option maxHeartbeats 1600000 in
theorem read_comment (s : ByteArray) (w : World) (h7 : Pl.kindOfTag s.data.toList = 7) :
    Calls Tryz.prog 149 #[.string s] w fun e w' => e = .returned (tgVal ⟨7, 0, [], [], []⟩) ∧ Below w.heap.size w w' := by
  have HK := (show Hid _ from fun w => h7 ▸ tagKindOf_any s w)
  clear h7
  go_enter Tryz.func149, Tryz.ntmps149
  go_wp2_with (go_at_call 193; refine Calls.mono (HK.out _) ?_; rintro e w' ⟨rfl, rfl⟩)
  exact tg_post (r := ⟨7, 0, [], [], []⟩) Tryz.results149 rfl rfl (heap_alloc_new w _) ((Below.refl _ _).alloc (Nat.le_refl _) _)

set_option maxRecDepth 100000 in
set_option maxHeartbeats 1600000 in
theorem read_hole (s : ByteArray) (w : World) (r : Pl.Tg) (h2 : Pl.kindOfTag s.data.toList = 2)
    (hN : ∀ o, Calls Tryz.prog 195 #[.int .i64 (2 : Nat), .string s] (w.alloc o) fun e w' => e = .returned (tgVal r) ∧ Below (w.alloc o).heap.size (w.alloc o) w') :
    Calls Tryz.prog 149 #[.string s] w fun e w' => e = .returned (tgVal r) ∧ Below w.heap.size w w' := by
  have HK := (show Hid _ from fun w => h2 ▸ tagKindOf_any s w)
  have HN := (show Hid _ from hN)
  have HR : Hid (#[Value.int .i64 r.kind, .int .i64 r.slip, bs r.name, bs r.op, bs r.cl] = tgCells r) := rfl
  clear h2 hN
  unfold tgVal at HN
  unfold bs at HN HR
  generalize (r.kind : Int) = r0 at HN HR
  generalize (r.slip : Int) = r1 at HN HR
  generalize (⟨r.name.toArray⟩ : ByteArray) = r2 at HN HR
  generalize (⟨r.op.toArray⟩ : ByteArray) = r3 at HN HR
  generalize (⟨r.cl.toArray⟩ : ByteArray) = r4 at HN HR
  go_enter Tryz.func149, Tryz.ntmps149
  go_wp2_with (first
      | (go_at_call 193; refine Calls.mono (HK.out _) ?_; rintro e w' ⟨rfl, rfl⟩)
      | (go_at_call 195; refine Calls.mono (HN.out _) ?_; rintro e w' ⟨rfl, hb⟩; have hS := (tgSlot_new w).next hb; obtain ⟨⟨k0, k1, k2, k3, k4⟩, f0, f1, f2, f3, f4⟩ := hS.facts; have HS := (show Hid _ from hS); clear hb hS))
  exact tg_post5 (w0 := w) r Tryz.results149 rfl rfl HS.out HR.out

set_option maxRecDepth 100000 in
set_option maxHeartbeats 1600000 in
theorem read_mark (s : ByteArray) (w : World) (r : Pl.Tg) (K : Nat) (L : ByteArray) (hk : Pl.kindOfTag s.data.toList = K) (h2 : K ≠ 2) (h7 : K ≠ 7) (h8 : K ≠ 8) (hs : s.size ≠ 0) (hm : MaxLenAt w)
    (hT : ∀ w, Calls Tryz.prog 196 #[.string (s.extract 1 s.size), .string ⟨#[9, 10, 12, 13, 32]⟩] w fun e w' => e = .returned (.string L) ∧ Below w.heap.size w w')
    (hN : ∀ w, MaxLenAt w → Calls Tryz.prog 195 #[.int .i64 K, .string L] w fun e w' => e = .returned (tgVal r) ∧ Below w.heap.size w w') :
    Calls Tryz.prog 149 #[.string s] w fun e w' => e = .returned (tgVal r) ∧ Below w.heap.size w w' := by
  have HK := (show Hid _ from fun w => hk ▸ tagKindOf_any s w)
  have HN := (show Hid _ from hN)
  have HT := (show Hid _ from hT)
  have HM := (show Hid _ from hm)
  have HR : Hid (#[Value.int .i64 r.kind, .int .i64 r.slip, bs r.name, bs r.op, bs r.cl] = tgCells r) := rfl
  have c1 : (1 : Int) ≤ (s.size : Int) := by omega
  have e7 : ¬ (K : Int) = 7 := by omega
  have e8 : ¬ (K : Int) = 8 := by omega
  have e2 : ¬ (K : Int) = 2 := by omega
  clear hk h2 hN hT hm h7 h8 hs
  unfold tgVal at HN
  unfold bs at HN HR
  generalize (r.kind : Int) = r0 at HN HR
  generalize (r.slip : Int) = r1 at HN HR
  generalize (⟨r.name.toArray⟩ : ByteArray) = r2 at HN HR
  generalize (⟨r.op.toArray⟩ : ByteArray) = r3 at HN HR
  generalize (⟨r.cl.toArray⟩ : ByteArray) = r4 at HN HR
  go_enter Tryz.func149, Tryz.ntmps149
  go_wp2_with (first
      | (go_at_call 193; refine Calls.mono (HK.out _) ?_; rintro e w' ⟨rfl, rfl⟩)
      | (go_at_call 196; refine Calls.mono (HT.out _) ?_; rintro e w' ⟨rfl, hb⟩; have HS0 := (show Hid _ from (tgSlot_new w).next hb); clear hb)
      | (go_at_call 195; refine Calls.mono (HN.out _ (MaxLenAt.below HM.out (TgSlot.below HS0.out))) ?_; rintro e w' ⟨rfl, hb⟩; have hS := TgSlot.next HS0.out hb; obtain ⟨⟨k0, k1, k2, k3, k4⟩, f0, f1, f2, f3, f4⟩ := hS.facts; have HS := (show Hid _ from hS); clear hb hS))
  exact tg_post5 (w0 := w) r Tryz.results149 rfl rfl HS.out HR.out

theorem read_plain (s : ByteArray) (w : World) (hs : s.size ≤ 100000) (hm : MaxLenAt w) (h8 : Pl.kindOfTag s.data.toList ≠ 8) :
    Calls Tryz.prog 149 #[.string s] w fun e w' => e = .returned (tgVal (Pl.readTg s.data.toList)) ∧ Below w.heap.size w w' := by
  by_cases h7 : Pl.kindOfTag s.data.toList = 7
  · have HV : Pl.readTg s.data.toList = ⟨7, 0, [], [], []⟩ := by unfold Pl.readTg; rw [if_pos h7]
    rw [HV]
    exact read_comment s w h7
  by_cases h2 : Pl.kindOfTag s.data.toList = 2
  · have HV : Pl.readTg s.data.toList = Pl.namedTg 2 s.data.toList := by unfold Pl.readTg; rw [if_neg h7, if_neg h8, if_pos h2]
    rw [HV]
    exact read_hole s w _ h2 fun o => tgNamed_any 2 s (w.alloc o) hs (hm.below ((Below.refl _ _).alloc (Nat.le_refl _) _))
  have hne : s.size ≠ 0 := fun q => h2 (by
    have : s.data.toList = [] := by
      apply List.eq_nil_of_length_eq_zero; simpa using q
    rw [this]; rfl)
  have HV : Pl.readTg s.data.toList = Pl.namedTg (Pl.kindOfTag s.data.toList) (Lib.trimLeftS (s.data.toList.drop 1) Pl.blanks5) := by unfold Pl.readTg; rw [if_neg h7, if_neg h8, if_neg h2]
  rw [HV]
  have hx : (s.extract 1 s.size).data.toList = s.data.toList.drop 1 := by
    rw [Lib.extract_eq]
    show List.take _ _ = _
    exact List.take_of_length_le (by simp)
  have hlt : (Lib.trimLeftS (s.data.toList.drop 1) Pl.blanks5).length ≤ 100000 := by
    have := Pl.trimL_le (s.data.toList.drop 1) Pl.blanks5
    have h3 : s.data.toList.length = s.size := by simp
    rw [List.length_drop] at this
    omega
  refine read_mark s w _ _ ⟨(Lib.trimLeftS (s.data.toList.drop 1) Pl.blanks5).toArray⟩ rfl h2 h7 h8 hne hm (fun w => ?_) (fun w hm => ?_)
  · have := trimLeft_blanks (s.extract 1 s.size) w
    rw [hx] at this
    exact this
  · exact tgNamed_any _ ⟨(Lib.trimLeftS (s.data.toList.drop 1) Pl.blanks5).toArray⟩ w (by simpa [ByteArray.size] using hlt) hm

end Go.Proofs.YtfkhljmiehdgmaaGreatDoor

/-
  The walks of package tags: a tag that stands alone on its line. (Made by wip/gen/gen_line.py.)
-/
namespace Go.Proofs.YtfkhljmiehdgmaaGreatDoor
open Go.RowKit

theorem tg_two {P : Program} {fn : Func} {R : Ending → World → Prop} {a : Act} {w : World} {t u : Tmp} (h : fn.results = #[.tmp t, .tmp u]) (hdf : a.defers = []) (x y : Value) (hx : a.tmps.getD t undef = x) (hy : a.tmps.getD u undef = y) (hR : R (.returned (.tuple #[x, y])) w) : bodyPost P fn R .ret a w := by
  subst hx hy
  refine bodyPost_ret ?_ hdf hR
  simp [results, h]

set_option maxRecDepth 100000 in
set_option maxHeartbeats 1600000 in
theorem line_BZ (w : World) (B g : Nat) (t : List UInt8) (c : Pl.Ct) (vp vo : Value) (h : CtAt w B g t c vp vo) (a z : Nat) (ha : a ≤ t.length) (hz : z ≤ t.length) (_ht : t.length ≤ 2000)
    (X Y : ByteArray) (hT : ∀ w, Calls Tryz.prog 204 #[.string ((⟨t.toArray⟩ : ByteArray).extract 0 a), .string ⟨#[9, 12, 13, 32]⟩] w fun e w' => e = .returned (.string X) ∧ Below w.heap.size w w')
    (hL : ∀ w, Calls Tryz.prog 196 #[.string ((⟨t.toArray⟩ : ByteArray).extract z t.length), .string ⟨#[9, 12, 13, 32]⟩] w fun e w' => e = .returned (.string Y) ∧ Below w.heap.size w w')
    (hX : X.toList.isEmpty = false) (n : Nat) (hn : X.size = n + 1) (hnb : n ≤ 100000) (hb : ∀ hh : n < X.size, X[n]'hh ≠ 10)  :
    Calls Tryz.prog 151 #[.pointer (some ⟨g, 0, none⟩), .int .i64 a, .int .i64 z] w fun e w' => e = .returned (.tuple #[.int .i64 a, .int .i64 z]) ∧ Below w.heap.size w w' := by
  obtain ⟨T, hTT⟩ : ∃ T, T = (⟨t.toArray⟩ : ByteArray) := ⟨_, rfl⟩
  have hTs : T.size = t.length := by rw [hTT]; simp [ByteArray.size]
  rw [← hTT] at hT hL
  have HT := (show Hid _ from hT)
  have HL := (show Hid _ from hL)
  have b0 := h.cell 0 _ rfl
  unfold bs at b0
  rw [← hTT] at b0
  have hlt : n < X.size := by omega
  have d1 : ¬ ((X[n]'hlt).toNat : Int) = 10 := fun q => hb hlt (UInt8.toNat_inj.1 (show (X[n]'hlt).toNat = 10 by omega))
  have w1 : IntKind.i64.wrap (n : Int) = n := wrap_nat n (by omega)
  clear hb
  have H := (show Hid _ from h)
  clear hT hL h hTT
  rw [← hTs] at ha hz HL
  have c1 : (a : Int) ≤ (T.size : Int) := by omega
  have c2 : (z : Int) ≤ (T.size : Int) := by omega
  clear hTs
  go_enter Tryz.func151, Tryz.ntmps151
  go_wp2_with (first
      | (go_at_call 204; refine Calls.mono (HT.out _) ?_; rintro e w1 ⟨rfl, hb⟩; have b1 : w1.cell? ⟨g, 0, none⟩ = some (.string T) := (World.cell?_of_block (hb.block _ (CtAt.lt H.out))).trans b0; have HB1 := (show Hid _ from hb); clear hb)
      | (go_at_call 196; refine Calls.mono (HL.out _) ?_; rintro e w2 ⟨rfl, hb⟩; have HB2 := (show Hid _ from hb); clear hb))
  refine tg_two Tryz.results151 rfl _ _ rfl rfl ?_
  exact ⟨rfl, by have h1 := HB1.out; have h2 := HB2.out; exact h1.trans (h2.mono h1.size)⟩

set_option maxRecDepth 100000 in
set_option maxHeartbeats 1600000 in
theorem line_EB (w : World) (B g : Nat) (t : List UInt8) (c : Pl.Ct) (vp vo : Value) (h : CtAt w B g t c vp vo) (a z : Nat) (ha : a ≤ t.length) (hz : z ≤ t.length) (_ht : t.length ≤ 2000)
    (X Y : ByteArray) (hT : ∀ w, Calls Tryz.prog 204 #[.string ((⟨t.toArray⟩ : ByteArray).extract 0 a), .string ⟨#[9, 12, 13, 32]⟩] w fun e w' => e = .returned (.string X) ∧ Below w.heap.size w w')
    (hL : ∀ w, Calls Tryz.prog 196 #[.string ((⟨t.toArray⟩ : ByteArray).extract z t.length), .string ⟨#[9, 12, 13, 32]⟩] w fun e w' => e = .returned (.string Y) ∧ Below w.heap.size w w')
    (hX : X.toList.isEmpty = true) (hY : Y.toList.isEmpty = false) (hy : 0 < Y.size) (hyb : Y[0] ≠ 10) :
    Calls Tryz.prog 151 #[.pointer (some ⟨g, 0, none⟩), .int .i64 a, .int .i64 z] w fun e w' => e = .returned (.tuple #[.int .i64 a, .int .i64 z]) ∧ Below w.heap.size w w' := by
  obtain ⟨T, hTT⟩ : ∃ T, T = (⟨t.toArray⟩ : ByteArray) := ⟨_, rfl⟩
  have hTs : T.size = t.length := by rw [hTT]; simp [ByteArray.size]
  rw [← hTT] at hT hL
  have HT := (show Hid _ from hT)
  have HL := (show Hid _ from hL)
  have b0 := h.cell 0 _ rfl
  unfold bs at b0
  rw [← hTT] at b0
  have d2 : ¬ (Y[0].toNat : Int) = 10 := fun q => hyb (UInt8.toNat_inj.1 (show Y[0].toNat = 10 by omega))
  have d3 : (0 : Int) < (Y.size : Int) := by omega
  clear hyb
  have H := (show Hid _ from h)
  clear hT hL h hTT
  rw [← hTs] at ha hz HL
  have c1 : (a : Int) ≤ (T.size : Int) := by omega
  have c2 : (z : Int) ≤ (T.size : Int) := by omega
  clear hTs
  go_enter Tryz.func151, Tryz.ntmps151
  go_wp2_with (first
      | (go_at_call 204; refine Calls.mono (HT.out _) ?_; rintro e w1 ⟨rfl, hb⟩; have b1 : w1.cell? ⟨g, 0, none⟩ = some (.string T) := (World.cell?_of_block (hb.block _ (CtAt.lt H.out))).trans b0; have HB1 := (show Hid _ from hb); clear hb)
      | (go_at_call 196; refine Calls.mono (HL.out _) ?_; rintro e w2 ⟨rfl, hb⟩; have HB2 := (show Hid _ from hb); clear hb))
  refine tg_two Tryz.results151 rfl _ _ rfl rfl ?_
  exact ⟨rfl, by have h1 := HB1.out; have h2 := HB2.out; exact h1.trans (h2.mono h1.size)⟩

set_option maxRecDepth 100000 in
set_option maxHeartbeats 1600000 in
theorem line_NB (w : World) (B g : Nat) (t : List UInt8) (c : Pl.Ct) (vp vo : Value) (h : CtAt w B g t c vp vo) (a z : Nat) (ha : a ≤ t.length) (hz : z ≤ t.length) (_ht : t.length ≤ 2000)
    (X Y : ByteArray) (hT : ∀ w, Calls Tryz.prog 204 #[.string ((⟨t.toArray⟩ : ByteArray).extract 0 a), .string ⟨#[9, 12, 13, 32]⟩] w fun e w' => e = .returned (.string X) ∧ Below w.heap.size w w')
    (hL : ∀ w, Calls Tryz.prog 196 #[.string ((⟨t.toArray⟩ : ByteArray).extract z t.length), .string ⟨#[9, 12, 13, 32]⟩] w fun e w' => e = .returned (.string Y) ∧ Below w.heap.size w w')
    (hX : X.toList.isEmpty = false) (n : Nat) (hn : X.size = n + 1) (hnb : n ≤ 100000) (hb : ∀ hh : n < X.size, X[n]'hh = 10) (hY : Y.toList.isEmpty = false) (hy : 0 < Y.size) (hyb : Y[0] ≠ 10) :
    Calls Tryz.prog 151 #[.pointer (some ⟨g, 0, none⟩), .int .i64 a, .int .i64 z] w fun e w' => e = .returned (.tuple #[.int .i64 a, .int .i64 z]) ∧ Below w.heap.size w w' := by
  obtain ⟨T, hTT⟩ : ∃ T, T = (⟨t.toArray⟩ : ByteArray) := ⟨_, rfl⟩
  have hTs : T.size = t.length := by rw [hTT]; simp [ByteArray.size]
  rw [← hTT] at hT hL
  have HT := (show Hid _ from hT)
  have HL := (show Hid _ from hL)
  have b0 := h.cell 0 _ rfl
  unfold bs at b0
  rw [← hTT] at b0
  have hlt : n < X.size := by omega
  have d1 : ((X[n]'hlt).toNat : Int) = 10 := by rw [hb hlt]; rfl
  have w1 : IntKind.i64.wrap (n : Int) = n := wrap_nat n (by omega)
  clear hb
  have d2 : ¬ (Y[0].toNat : Int) = 10 := fun q => hyb (UInt8.toNat_inj.1 (show Y[0].toNat = 10 by omega))
  have d3 : (0 : Int) < (Y.size : Int) := by omega
  clear hyb
  have H := (show Hid _ from h)
  clear hT hL h hTT
  rw [← hTs] at ha hz HL
  have c1 : (a : Int) ≤ (T.size : Int) := by omega
  have c2 : (z : Int) ≤ (T.size : Int) := by omega
  clear hTs
  go_enter Tryz.func151, Tryz.ntmps151
  go_wp2_with (first
      | (go_at_call 204; refine Calls.mono (HT.out _) ?_; rintro e w1 ⟨rfl, hb⟩; have b1 : w1.cell? ⟨g, 0, none⟩ = some (.string T) := (World.cell?_of_block (hb.block _ (CtAt.lt H.out))).trans b0; have HB1 := (show Hid _ from hb); clear hb)
      | (go_at_call 196; refine Calls.mono (HL.out _) ?_; rintro e w2 ⟨rfl, hb⟩; have HB2 := (show Hid _ from hb); clear hb))
  refine tg_two Tryz.results151 rfl _ _ rfl rfl ?_
  exact ⟨rfl, by have h1 := HB1.out; have h2 := HB2.out; exact h1.trans (h2.mono h1.size)⟩

end Go.Proofs.YtfkhljmiehdgmaaGreatDoor

/-
  The walks of package tags: a tag that stands alone on its line. (Made by wip/gen/gen_line.py.)
-/
namespace Go.Proofs.YtfkhljmiehdgmaaGreatDoor
open Go.RowKit

set_option maxRecDepth 100000 in
set_option maxHeartbeats 1600000 in
theorem line_EE (w : World) (B g : Nat) (t : List UInt8) (c : Pl.Ct) (vp vo : Value) (h : CtAt w B g t c vp vo) (a z : Nat) (ha : a ≤ t.length) (hz : z ≤ t.length) (ht : t.length ≤ 2000)
    (X Y : ByteArray) (hT : ∀ w, Calls Tryz.prog 204 #[.string ((⟨t.toArray⟩ : ByteArray).extract 0 a), .string ⟨#[9, 12, 13, 32]⟩] w fun e w' => e = .returned (.string X) ∧ Below w.heap.size w w')
    (hL : ∀ w, Calls Tryz.prog 196 #[.string ((⟨t.toArray⟩ : ByteArray).extract z t.length), .string ⟨#[9, 12, 13, 32]⟩] w fun e w' => e = .returned (.string Y) ∧ Below w.heap.size w w')
    (P : ByteArray) (hP : ∀ w, Calls Tryz.prog 205 #[.string Y, .string ⟨#[10]⟩] w fun e w' => e = .returned (.string P) ∧ w = w') (hPl : P.size ≤ t.length)
    (hX : X.toList.isEmpty = true) (hY : Y.toList.isEmpty = true) :
    Calls Tryz.prog 151 #[.pointer (some ⟨g, 0, none⟩), .int .i64 a, .int .i64 z] w fun e w' => e = .returned (.tuple #[.int .i64 X.size, .int .i64 ((t.length : Int) - (P.size : Int))]) ∧ Below w.heap.size w w' := by
  obtain ⟨T, hTT⟩ : ∃ T, T = (⟨t.toArray⟩ : ByteArray) := ⟨_, rfl⟩
  have hTs : T.size = t.length := by rw [hTT]; simp [ByteArray.size]
  rw [← hTT] at hT hL
  have HT := (show Hid _ from hT)
  have HL := (show Hid _ from hL)
  have b0 := h.cell 0 _ rfl
  unfold bs at b0
  rw [← hTT] at b0
  have H := (show Hid _ from h)
  clear hT hL h hTT
  rw [← hTs] at ha hz HL ht hPl ⊢
  have c1 : (a : Int) ≤ (T.size : Int) := by omega
  have c2 : (z : Int) ≤ (T.size : Int) := by omega
  have HP := (show Hid _ from hP)
  clear hP
  have w9 : IntKind.i64.wrap ((T.size : Int) - (P.size : Int)) = (T.size : Int) - (P.size : Int) := by rw [IntKind.wrap_i64]; omega
  clear hTs
  go_enter Tryz.func151, Tryz.ntmps151
  go_wp2_with (first
      | (go_at_call 204; refine Calls.mono (HT.out _) ?_; rintro e w1 ⟨rfl, hb⟩; have b1 : w1.cell? ⟨g, 0, none⟩ = some (.string T) := (World.cell?_of_block (hb.block _ (CtAt.lt H.out))).trans b0; have HB1 := (show Hid _ from hb); clear hb)
      | (go_at_call 196; refine Calls.mono (HL.out _) ?_; rintro e w2 ⟨rfl, hb⟩; have b2 : w2.cell? ⟨g, 0, none⟩ = some (.string T) := (World.cell?_of_block (hb.block _ (World.block_lt_of_cell? _ _ b1))).trans b1; have HB2 := (show Hid _ from hb); clear hb))
  go_region_with (first | (go_at_call 205; refine Calls.mono (HP.out _) ?_; rintro e w3 ⟨rfl, rfl⟩) | fail)
  all_goals
    go_wp2_with fail
    refine tg_two Tryz.results151 rfl _ _ rfl rfl ?_
    exact ⟨by first | rfl | (rw [hn]; rfl), by have h1 := HB1.out; have h2 := HB2.out; exact (h1.trans (h2.mono h1.size)).drew⟩

set_option maxRecDepth 100000 in
set_option maxHeartbeats 1600000 in
theorem line_EN (w : World) (B g : Nat) (t : List UInt8) (c : Pl.Ct) (vp vo : Value) (h : CtAt w B g t c vp vo) (a z : Nat) (ha : a ≤ t.length) (hz : z ≤ t.length) (ht : t.length ≤ 2000)
    (X Y : ByteArray) (hT : ∀ w, Calls Tryz.prog 204 #[.string ((⟨t.toArray⟩ : ByteArray).extract 0 a), .string ⟨#[9, 12, 13, 32]⟩] w fun e w' => e = .returned (.string X) ∧ Below w.heap.size w w')
    (hL : ∀ w, Calls Tryz.prog 196 #[.string ((⟨t.toArray⟩ : ByteArray).extract z t.length), .string ⟨#[9, 12, 13, 32]⟩] w fun e w' => e = .returned (.string Y) ∧ Below w.heap.size w w')
    (P : ByteArray) (hP : ∀ w, Calls Tryz.prog 205 #[.string Y, .string ⟨#[10]⟩] w fun e w' => e = .returned (.string P) ∧ w = w') (hPl : P.size ≤ t.length)
    (hX : X.toList.isEmpty = true) (hY : Y.toList.isEmpty = false) (hy : 0 < Y.size) (hyb : Y[0] = 10) :
    Calls Tryz.prog 151 #[.pointer (some ⟨g, 0, none⟩), .int .i64 a, .int .i64 z] w fun e w' => e = .returned (.tuple #[.int .i64 X.size, .int .i64 ((t.length : Int) - (P.size : Int))]) ∧ Below w.heap.size w w' := by
  obtain ⟨T, hTT⟩ : ∃ T, T = (⟨t.toArray⟩ : ByteArray) := ⟨_, rfl⟩
  have hTs : T.size = t.length := by rw [hTT]; simp [ByteArray.size]
  rw [← hTT] at hT hL
  have HT := (show Hid _ from hT)
  have HL := (show Hid _ from hL)
  have b0 := h.cell 0 _ rfl
  unfold bs at b0
  rw [← hTT] at b0
  have d2 : (Y[0].toNat : Int) = 10 := by rw [hyb]; rfl
  have d3 : (0 : Int) < (Y.size : Int) := by omega
  clear hyb
  have H := (show Hid _ from h)
  clear hT hL h hTT
  rw [← hTs] at ha hz HL ht hPl ⊢
  have c1 : (a : Int) ≤ (T.size : Int) := by omega
  have c2 : (z : Int) ≤ (T.size : Int) := by omega
  have HP := (show Hid _ from hP)
  clear hP
  have w9 : IntKind.i64.wrap ((T.size : Int) - (P.size : Int)) = (T.size : Int) - (P.size : Int) := by rw [IntKind.wrap_i64]; omega
  clear hTs
  go_enter Tryz.func151, Tryz.ntmps151
  go_wp2_with (first
      | (go_at_call 204; refine Calls.mono (HT.out _) ?_; rintro e w1 ⟨rfl, hb⟩; have b1 : w1.cell? ⟨g, 0, none⟩ = some (.string T) := (World.cell?_of_block (hb.block _ (CtAt.lt H.out))).trans b0; have HB1 := (show Hid _ from hb); clear hb)
      | (go_at_call 196; refine Calls.mono (HL.out _) ?_; rintro e w2 ⟨rfl, hb⟩; have b2 : w2.cell? ⟨g, 0, none⟩ = some (.string T) := (World.cell?_of_block (hb.block _ (World.block_lt_of_cell? _ _ b1))).trans b1; have HB2 := (show Hid _ from hb); clear hb))
  go_region_with (first | (go_at_call 205; refine Calls.mono (HP.out _) ?_; rintro e w3 ⟨rfl, rfl⟩) | fail)
  all_goals
    go_wp2_with fail
    refine tg_two Tryz.results151 rfl _ _ rfl rfl ?_
    exact ⟨by first | rfl | (rw [hn]; rfl), by have h1 := HB1.out; have h2 := HB2.out; exact (h1.trans (h2.mono h1.size)).drew⟩

set_option maxRecDepth 100000 in
set_option maxHeartbeats 1600000 in
theorem line_NE (w : World) (B g : Nat) (t : List UInt8) (c : Pl.Ct) (vp vo : Value) (h : CtAt w B g t c vp vo) (a z : Nat) (ha : a ≤ t.length) (hz : z ≤ t.length) (ht : t.length ≤ 2000)
    (X Y : ByteArray) (hT : ∀ w, Calls Tryz.prog 204 #[.string ((⟨t.toArray⟩ : ByteArray).extract 0 a), .string ⟨#[9, 12, 13, 32]⟩] w fun e w' => e = .returned (.string X) ∧ Below w.heap.size w w')
    (hL : ∀ w, Calls Tryz.prog 196 #[.string ((⟨t.toArray⟩ : ByteArray).extract z t.length), .string ⟨#[9, 12, 13, 32]⟩] w fun e w' => e = .returned (.string Y) ∧ Below w.heap.size w w')
    (P : ByteArray) (hP : ∀ w, Calls Tryz.prog 205 #[.string Y, .string ⟨#[10]⟩] w fun e w' => e = .returned (.string P) ∧ w = w') (hPl : P.size ≤ t.length)
    (hX : X.toList.isEmpty = false) (n : Nat) (hn : X.size = n + 1) (hnb : n ≤ 100000) (hb : ∀ hh : n < X.size, X[n]'hh = 10) (hY : Y.toList.isEmpty = true) :
    Calls Tryz.prog 151 #[.pointer (some ⟨g, 0, none⟩), .int .i64 a, .int .i64 z] w fun e w' => e = .returned (.tuple #[.int .i64 X.size, .int .i64 ((t.length : Int) - (P.size : Int))]) ∧ Below w.heap.size w w' := by
  obtain ⟨T, hTT⟩ : ∃ T, T = (⟨t.toArray⟩ : ByteArray) := ⟨_, rfl⟩
  have hTs : T.size = t.length := by rw [hTT]; simp [ByteArray.size]
  rw [← hTT] at hT hL
  have HT := (show Hid _ from hT)
  have HL := (show Hid _ from hL)
  have b0 := h.cell 0 _ rfl
  unfold bs at b0
  rw [← hTT] at b0
  have hlt : n < X.size := by omega
  have d1 : ((X[n]'hlt).toNat : Int) = 10 := by rw [hb hlt]; rfl
  have w1 : IntKind.i64.wrap (n : Int) = n := wrap_nat n (by omega)
  clear hb
  have H := (show Hid _ from h)
  clear hT hL h hTT
  rw [← hTs] at ha hz HL ht hPl ⊢
  have c1 : (a : Int) ≤ (T.size : Int) := by omega
  have c2 : (z : Int) ≤ (T.size : Int) := by omega
  have HP := (show Hid _ from hP)
  clear hP
  have w9 : IntKind.i64.wrap ((T.size : Int) - (P.size : Int)) = (T.size : Int) - (P.size : Int) := by rw [IntKind.wrap_i64]; omega
  clear hTs
  go_enter Tryz.func151, Tryz.ntmps151
  go_wp2_with (first
      | (go_at_call 204; refine Calls.mono (HT.out _) ?_; rintro e w1 ⟨rfl, hb⟩; have b1 : w1.cell? ⟨g, 0, none⟩ = some (.string T) := (World.cell?_of_block (hb.block _ (CtAt.lt H.out))).trans b0; have HB1 := (show Hid _ from hb); clear hb)
      | (go_at_call 196; refine Calls.mono (HL.out _) ?_; rintro e w2 ⟨rfl, hb⟩; have b2 : w2.cell? ⟨g, 0, none⟩ = some (.string T) := (World.cell?_of_block (hb.block _ (World.block_lt_of_cell? _ _ b1))).trans b1; have HB2 := (show Hid _ from hb); clear hb))
  go_region_with (first | (go_at_call 205; refine Calls.mono (HP.out _) ?_; rintro e w3 ⟨rfl, rfl⟩) | fail)
  all_goals
    go_wp2_with fail
    refine tg_two Tryz.results151 rfl _ _ rfl rfl ?_
    exact ⟨by first | rfl | (rw [hn]; rfl), by have h1 := HB1.out; have h2 := HB2.out; exact (h1.trans (h2.mono h1.size)).drew⟩

set_option maxRecDepth 100000 in
set_option maxHeartbeats 1600000 in
theorem line_NN (w : World) (B g : Nat) (t : List UInt8) (c : Pl.Ct) (vp vo : Value) (h : CtAt w B g t c vp vo) (a z : Nat) (ha : a ≤ t.length) (hz : z ≤ t.length) (ht : t.length ≤ 2000)
    (X Y : ByteArray) (hT : ∀ w, Calls Tryz.prog 204 #[.string ((⟨t.toArray⟩ : ByteArray).extract 0 a), .string ⟨#[9, 12, 13, 32]⟩] w fun e w' => e = .returned (.string X) ∧ Below w.heap.size w w')
    (hL : ∀ w, Calls Tryz.prog 196 #[.string ((⟨t.toArray⟩ : ByteArray).extract z t.length), .string ⟨#[9, 12, 13, 32]⟩] w fun e w' => e = .returned (.string Y) ∧ Below w.heap.size w w')
    (P : ByteArray) (hP : ∀ w, Calls Tryz.prog 205 #[.string Y, .string ⟨#[10]⟩] w fun e w' => e = .returned (.string P) ∧ w = w') (hPl : P.size ≤ t.length)
    (hX : X.toList.isEmpty = false) (n : Nat) (hn : X.size = n + 1) (hnb : n ≤ 100000) (hb : ∀ hh : n < X.size, X[n]'hh = 10) (hY : Y.toList.isEmpty = false) (hy : 0 < Y.size) (hyb : Y[0] = 10) :
    Calls Tryz.prog 151 #[.pointer (some ⟨g, 0, none⟩), .int .i64 a, .int .i64 z] w fun e w' => e = .returned (.tuple #[.int .i64 X.size, .int .i64 ((t.length : Int) - (P.size : Int))]) ∧ Below w.heap.size w w' := by
  obtain ⟨T, hTT⟩ : ∃ T, T = (⟨t.toArray⟩ : ByteArray) := ⟨_, rfl⟩
  have hTs : T.size = t.length := by rw [hTT]; simp [ByteArray.size]
  rw [← hTT] at hT hL
  have HT := (show Hid _ from hT)
  have HL := (show Hid _ from hL)
  have b0 := h.cell 0 _ rfl
  unfold bs at b0
  rw [← hTT] at b0
  have hlt : n < X.size := by omega
  have d1 : ((X[n]'hlt).toNat : Int) = 10 := by rw [hb hlt]; rfl
  have w1 : IntKind.i64.wrap (n : Int) = n := wrap_nat n (by omega)
  clear hb
  have d2 : (Y[0].toNat : Int) = 10 := by rw [hyb]; rfl
  have d3 : (0 : Int) < (Y.size : Int) := by omega
  clear hyb
  have H := (show Hid _ from h)
  clear hT hL h hTT
  rw [← hTs] at ha hz HL ht hPl ⊢
  have c1 : (a : Int) ≤ (T.size : Int) := by omega
  have c2 : (z : Int) ≤ (T.size : Int) := by omega
  have HP := (show Hid _ from hP)
  clear hP
  have w9 : IntKind.i64.wrap ((T.size : Int) - (P.size : Int)) = (T.size : Int) - (P.size : Int) := by rw [IntKind.wrap_i64]; omega
  clear hTs
  go_enter Tryz.func151, Tryz.ntmps151
  go_wp2_with (first
      | (go_at_call 204; refine Calls.mono (HT.out _) ?_; rintro e w1 ⟨rfl, hb⟩; have b1 : w1.cell? ⟨g, 0, none⟩ = some (.string T) := (World.cell?_of_block (hb.block _ (CtAt.lt H.out))).trans b0; have HB1 := (show Hid _ from hb); clear hb)
      | (go_at_call 196; refine Calls.mono (HL.out _) ?_; rintro e w2 ⟨rfl, hb⟩; have b2 : w2.cell? ⟨g, 0, none⟩ = some (.string T) := (World.cell?_of_block (hb.block _ (World.block_lt_of_cell? _ _ b1))).trans b1; have HB2 := (show Hid _ from hb); clear hb))
  go_region_with (first | (go_at_call 205; refine Calls.mono (HP.out _) ?_; rintro e w3 ⟨rfl, rfl⟩) | fail)
  all_goals
    go_wp2_with fail
    refine tg_two Tryz.results151 rfl _ _ rfl rfl ?_
    exact ⟨by first | rfl | (rw [hn]; rfl), by have h1 := HB1.out; have h2 := HB2.out; exact (h1.trans (h2.mono h1.size)).drew⟩

end Go.Proofs.YtfkhljmiehdgmaaGreatDoor

/-
  The walks of package tags: the line of a tag.
-/
namespace Go.Proofs.YtfkhljmiehdgmaaGreatDoor
open Go.RowKit

theorem extract_head (t : List UInt8) (a : Nat) : ((⟨t.toArray⟩ : ByteArray).extract 0 a).data.toList = t.take a := by
  rw [bs_extract]; simp
theorem extract_tail (t : List UInt8) (z : Nat) : ((⟨t.toArray⟩ : ByteArray).extract z t.length).data.toList = t.drop z := by
  rw [bs_extract]
  show (t.drop z).take (t.length - z) = t.drop z
  exact List.take_of_length_le (by simp)
theorem last_or (l : List UInt8) : l = [] ∨ ∃ A b, l = A ++ [b] := by
  rcases List.eq_nil_or_concat l with h | ⟨A, b, h⟩
  · exact .inl h
  · exact .inr ⟨A, b, by simpa using h⟩
theorem empty_is (l : List UInt8) : (⟨l.toArray⟩ : ByteArray).toList.isEmpty = l.isEmpty := by rw [Lib.toList_data]
theorem get_last (A : List UInt8) (b : UInt8) (hh : A.length < (⟨(A ++ [b]).toArray⟩ : ByteArray).size) : (⟨(A ++ [b]).toArray⟩ : ByteArray)[A.length]'hh = b := by
  show (A ++ [b]).toArray[A.length]'_ = b
  simp
theorem get_first (b : UInt8) (L : List UInt8) (hh : 0 < (⟨(b :: L).toArray⟩ : ByteArray).size) : (⟨(b :: L).toArray⟩ : ByteArray)[0]'hh = b := rfl
theorem size_is (l : List UInt8) : (⟨l.toArray⟩ : ByteArray).size = l.length := by simp [ByteArray.size]

theorem line_any (w : World) (B g : Nat) (t : List UInt8) (c : Pl.Ct) (vp vo : Value) (h : CtAt w B g t c vp vo) (a z : Nat) (ha : a ≤ t.length) (hz : z ≤ t.length) (ht : t.length ≤ 2000) :
    Calls Tryz.prog 151 #[.pointer (some ⟨g, 0, none⟩), .int .i64 a, .int .i64 z] w fun e w' => e = .returned (.tuple #[.int .i64 (Pl.lineOf t a z).1, .int .i64 (Pl.lineOf t a z).2]) ∧ Below w.heap.size w w' := by
  have hT : ∀ w, Calls Tryz.prog 204 #[.string ((⟨t.toArray⟩ : ByteArray).extract 0 a), .string ⟨#[9, 12, 13, 32]⟩] w fun e w' => e = .returned (bs (Lib.trimRightS (t.take a) Pl.lineBl)) ∧ Below w.heap.size w w' := fun w => by
    have := trimRight_line ((⟨t.toArray⟩ : ByteArray).extract 0 a) w (by rw [bs_extract, size_is]; simp; omega)
    rw [extract_head] at this
    exact this
  have hL : ∀ w, Calls Tryz.prog 196 #[.string ((⟨t.toArray⟩ : ByteArray).extract z t.length), .string ⟨#[9, 12, 13, 32]⟩] w fun e w' => e = .returned (bs (Lib.trimLeftS (t.drop z) Pl.lineBl)) ∧ Below w.heap.size w w' := fun w => by
    have := trimLeft_line ((⟨t.toArray⟩ : ByteArray).extract z t.length) w
    rw [extract_tail] at this
    exact this
  have hAl := Pl.trimR_le (t.take a) Pl.lineBl
  have hYl := Pl.trimL_le (t.drop z) Pl.lineBl
  unfold Pl.lineOf
  rw [List.length_take] at hAl
  rw [List.length_drop] at hYl
  generalize Lib.trimRightS (t.take a) Pl.lineBl = A at *
  generalize Lib.trimLeftS (t.drop z) Pl.lineBl = Y at *
  have hP : ∀ w, Calls Tryz.prog 205 #[.string ⟨Y.toArray⟩, .string ⟨#[10]⟩] w fun e w' => e = .returned (.string ⟨(Lib.trimPrefix Y [10]).toArray⟩) ∧ w = w' := fun w => by
    refine (Tryz.strings_TrimPrefix ⟨Y.toArray⟩ ⟨#[10]⟩ w).mono ?_
    rintro e w' ⟨rfl, rfl⟩
    exact ⟨rfl, rfl⟩
  have hPl := Pl.trimP_le Y [10]
  have hPs : (⟨(Lib.trimPrefix Y [10]).toArray⟩ : ByteArray).size ≤ t.length := by rw [size_is]; omega
  have fin : (t.length : Int) - ((⟨(Lib.trimPrefix Y [10]).toArray⟩ : ByteArray).size : Int) = ((t.length - (Lib.trimPrefix Y [10]).length : Nat) : Int) := by rw [size_is]; omega
  unfold bs at hT hL
  rcases last_or A with rfl | ⟨A, b, rfl⟩
  · rcases Y with _ | ⟨y, Y⟩
    · have := line_EE w B g t c vp vo h a z ha hz ht _ _ hT hL _ hP hPs (empty_is []) (empty_is [])
      rw [fin] at this
      exact this
    · by_cases hy : y = 10
      · have := line_EN w B g t c vp vo h a z ha hz ht _ _ hT hL _ hP hPs (empty_is []) (by rw [empty_is]; rfl) (by rw [size_is]; simp) (by rw [get_first]; exact hy)
        rw [fin] at this
        simp only [List.getLast?_nil, Option.any_none, List.head?_cons, Option.any_some, hy, bne_self_eq_false, Bool.or_self, Bool.false_eq_true, if_false]
        rw [hy] at this
        exact this
      · have := line_EB w B g t c vp vo h a z ha hz ht _ _ hT hL (empty_is []) (by rw [empty_is]; rfl) (by rw [size_is]; simp) (by rw [get_first]; exact hy)
        have hb : (y != 10) = true := by simpa using hy
        simp only [List.getLast?_nil, Option.any_none, List.head?_cons, Option.any_some, hb, Bool.or_true, if_true]
        exact this
  · have hE : (⟨(A ++ [b]).toArray⟩ : ByteArray).toList.isEmpty = false := by rw [empty_is]; simp
    have hS : (⟨(A ++ [b]).toArray⟩ : ByteArray).size = A.length + 1 := by rw [size_is]; simp
    have hSl : A.length ≤ 100000 := by simp at hAl; omega
    by_cases hb : b = 10
    · rcases Y with _ | ⟨y, Y⟩
      · have := line_NE w B g t c vp vo h a z ha hz ht _ _ hT hL _ hP hPs hE A.length hS hSl (fun hh => by rw [get_last]; exact hb) (empty_is [])
        rw [fin, size_is] at this
        simp only [List.getLast?_concat, Option.any_some, hb, bne_self_eq_false, List.head?_nil, Option.any_none, Bool.or_self, Bool.false_eq_true, if_false]
        rw [hb] at this
        exact this
      · by_cases hy : y = 10
        · have := line_NN w B g t c vp vo h a z ha hz ht _ _ hT hL _ hP hPs hE A.length hS hSl (fun hh => by rw [get_last]; exact hb) (by rw [empty_is]; rfl) (by rw [size_is]; simp) (by rw [get_first]; exact hy)
          rw [fin, size_is] at this
          simp only [List.getLast?_concat, Option.any_some, hb, hy, bne_self_eq_false, List.head?_cons, Bool.or_self, Bool.false_eq_true, if_false]
          rw [hb, hy] at this
          exact this
        · have := line_NB w B g t c vp vo h a z ha hz ht _ _ hT hL hE A.length hS hSl (fun hh => by rw [get_last]; exact hb) (by rw [empty_is]; rfl) (by rw [size_is]; simp) (by rw [get_first]; exact hy)
          have hb' : (y != 10) = true := by simpa using hy
          simp only [List.head?_cons, Option.any_some, hb', Bool.or_true, if_true]
          exact this
    · have := line_BZ w B g t c vp vo h a z ha hz ht _ _ hT hL hE A.length hS hSl (fun hh => by rw [get_last]; exact hb)
      have hb' : (b != 10) = true := by simpa using hb
      simp only [List.getLast?_concat, Option.any_some, hb', Bool.true_or, if_true]
      exact this

end Go.Proofs.YtfkhljmiehdgmaaGreatDoor

/-
  The walks of package tags: a text that is copied.
-/
namespace Go.Proofs.YtfkhljmiehdgmaaGreatDoor
open Go.RowKit

theorem tgInfo_u8 : (Tryz.prog.info? 5).map (fun i => (i.zero, i.size, i.bytes)) = some (some (.int .u8 0), 1, 1) := by kernel_rfl

set_option maxRecDepth 100000 in
set_option maxHeartbeats 1600000 in
theorem cloneLite_any (s : ByteArray) (w : World) (hs : s.size ≤ 100000) :
    Calls Tryz.prog 103 #[.string s] w fun e w' => e = .returned (.string s) ∧ Below w.heap.size w w' := by
  by_cases h0 : s.size = 0
  · obtain rfl : s = ⟨#[]⟩ := ByteArray.ext (Array.eq_empty_of_size_eq_zero h0)
    go_enter Tryz.func103, Tryz.ntmps103
    go_wp2_with fail
    go_ret
    exact ⟨rfl, Below.refl _ _⟩
  have c0 : ¬ (s.size : Int) = 0 := by omega
  have c1 : (0 : Int) < (s.size : Int) := by omega
  obtain ⟨i0, hi, hz0, hz1, hz2⟩ := info_parts tgInfo_u8
  obtain ⟨W1, hmk, hown, hgr⟩ := run_makeSlice_full (P := Tryz.prog) w w.heap.size 82 5 i0 (.int .u8 0) 1 Tryz.underlying82 hi hz0 hz1 .i64 .i64 s.size (by omega) (by rw [hz2]; omega) (by unfold maxLen; omega) (Nat.le_refl _)
  obtain ⟨cur, hcur, hsz⟩ : ∃ cur, W1.heap[w.heap.size]? = some (.cells cur 5 (0, 0)) ∧ cur.size = s.size := by
    rcases hown.2 with ⟨q, _⟩ | ⟨g, cap, cur, hv, _, hg, _, _, hs, _⟩
    · cases q
    · injection hv with e1 e2 e3
      injection e1 with e1
      injection e1 with e1
      subst e1 e3
      exact ⟨cur, hg, by omega⟩
  have hcp := fun ty => Lib.run_copy_row_string (P := Tryz.prog) W1 82 9 ty 5 w.heap.size 0 s.size s.size s cur 5 Tryz.underlying82 (by rw [hi]; simp [hz1]) hcur (Nat.le_refl _) (by omega)
  have hrow : (cur.toList.take 0 ++ Lib.byteCells s.data.toList ++ cur.toList.drop (0 + s.size)) = Lib.byteCells s.data.toList := by
    rw [List.take_zero, List.nil_append, List.drop_of_length_le (by simp [hsz]), List.append_nil]
  rw [hrow] at hcp
  have hb1 : Below w.heap.size w W1 := ⟨hgr.os, hgr.tape, hgr.output, hgr.size, fun k hk => hgr.block k hk (by simp)⟩
  have hh2 : (W1.setRow w.heap.size (Lib.byteCells s.data.toList).toArray).heap[w.heap.size]? = some (.cells (Lib.byteCells s.data.toList).toArray 5 (0, 0)) := setRow_heap W1 _ _ _ _ _ hcur
  have hb2 : Below w.heap.size w (W1.setRow w.heap.size (Lib.byteCells s.data.toList).toArray) := ⟨hb1.os, hb1.tape, hb1.output, by simpa using hb1.size, fun k hk => by
    refine Eq.trans ?_ (hb1.block k hk)
    simp only [World.setRow, Array.getElem?_modify]
    rw [if_neg (by omega)]⟩
  clear hcur hrow hown hgr
  generalize W1.setRow w.heap.size (Lib.byteCells s.data.toList).toArray = W2 at hcp hh2 hb2
  have hus := fun pt it ty hp => Lib.run_unsafeString_row (P := Tryz.prog) W2 pt it ty 5 hp (by kernel_rfl) w.heap.size s.size (by simp [World.shape?, hh2, Lib.byteCells]) s.data.toList (fun q => h0 (by have := congrArg List.length q; simpa using this)) (by simp) (by simp; omega) (fun j x hx => by
    have e : (⟨w.heap.size, 0, none⟩ : Addr).add j = ⟨w.heap.size, j, none⟩ := by simp only [Addr.add, Nat.zero_add]; split <;> simp_all
    rw [e]
    exact cells_at_block hh2 j _ (by simp [Lib.byteCells, hx]))
  have hl : (s.data.toList.length : Int) = (s.size : Int) := by simp
  have hS : (⟨s.data.toList.toArray⟩ : ByteArray) = s := by cases s; simp
  simp only [hl, hS] at hus
  have HB := (show Hid _ from Lib.below_freeze hb2 (p := ⟨w.heap.size, 0, none⟩) (Nat.le_refl _) s.data.toList.length)
  have e1 := hcp 3
  have e2 := hus 209 3 9 Tryz.underlying209
  clear hcp hus hh2 hb1 hb2 hi hz0 hz1 hz2 hl hS
  go_enter Tryz.func103, Tryz.ntmps103
  go_wp2_with fail
  go_ret
  exact ⟨rfl, HB.out⟩

theorem clone_any (s : ByteArray) (w : World) (hs : s.size ≤ 100000) :
    Calls Tryz.prog 73 #[.string s] w fun e w' => e = .returned (.string s) ∧ Below w.heap.size w w' := by
  go_enter Tryz.func73, Tryz.ntmps73
  go_wp2_with (go_at_call 103; refine (cloneLite_any s _ hs).mono ?_; rintro e w' ⟨rfl, hb⟩)
  go_ret
  exact ⟨rfl, hb⟩

end Go.Proofs.YtfkhljmiehdgmaaGreatDoor
