/-
  Several texts laid together: each opens with its own remark.
-/
import Derived.Test.YtfkhljmiehdgmaaDoorMgF
import Derived.Test.YtfkhljmiehdgmaaDoorMgB
import Derived.Test.YtfkhljmiehdgmaaDoorMgC
import Derived.Deep.Onto

/-
  The walks of the document's answer on pages: a byte within an element that does not end there.
-/
namespace Go.Proofs.YtfkhljmiehdgmaaDoor
open Go.RowKit

theorem SpMid.setInside {w0 w : World} {g : Nat} {p : Pl.Sp} (h : SpMid w0 w g p) (l : List UInt8) : SpMid w0 (w.setCell ⟨g, 3, none⟩ (.string ⟨l.toArray⟩)) g ⟨p.mode, p.tag, p.attr, l, p.run, p.far⟩ :=
  ⟨h.eq, h.below.setCell (p := ⟨g, 3, none⟩) (Nat.le_of_eq h.eq) _,
    ⟨(World.cell?_setCell_other _ _ _ _ (by simp)).trans h.at'.mode, (World.cell?_setCell_other _ _ _ _ (by simp)).trans h.at'.tag, (World.cell?_setCell_other _ _ _ _ (by simp)).trans h.at'.attr,
      World.cell?_setCell_same _ _ _ h.at'.inside, (World.cell?_setCell_other _ _ _ _ (by simp)).trans h.at'.run, (World.cell?_setCell_other _ _ _ _ (by simp)).trans h.at'.far⟩,
    by obtain ⟨cs, t, hh, hs⟩ := h.slot
       simp only [Slot6, World.setCell, Array.getElem?_modify, ↓reduceIte, hh, Option.map_some]
       exact ⟨_, _, rfl, by simp [hs]⟩,
    h.res.put g 3 _ (by omega)⟩
theorem tail_app (l : List UInt8) (x : UInt8) (w : World) (hl : l.length ≤ 10000000) :
    Calls Tryd.prog 80 #[.string (ByteArray.mk l.toArray ++ ByteArray.mk #[x])] w fun e w' => e = .returned (.string ⟨(Pl.tail12 (l ++ [x])).toArray⟩) ∧ w = w' := by
  have h := tail_any (ByteArray.mk l.toArray ++ ByteArray.mk #[x]) w (by rw [ByteArray.size_append]; simp [ByteArray.size]; omega)
  rw [show (ByteArray.mk l.toArray ++ ByteArray.mk #[x]).data.toList = l ++ [x] by simp] at h
  exact h

set_option maxRecDepth 100000 in
set_option maxHeartbeats 3200000 in
theorem element_othA (p : Pl.Sp) (m : Nat) (b : UInt8) (w : World) (hpm : p.mode = m) (hm : m ≤ 33) (ht : p.tag.length ≤ 1000) (ha' : p.attr.length ≤ 1000) (hi : p.inside.length ≤ 1000) (hrl : p.run.length ≤ 10000000) (hr : ¬ p.read = (Pl.spEnd p.tag).length) (hs : Pl.isStr m = false) (hm19 : ¬ m = 19) :
    Calls Tryd.prog 62 #[spVal p, .int .u8 b.toNat] w fun e w' => e = .returned (spVal ((Pl.Sp.mk m p.tag p.attr (Pl.tail12 (p.inside ++ [b])) p.run p.far).step m b)) ∧ Below w.heap.size w w' := by
  have hzt : (ByteArray.mk p.tag.toArray).size = p.tag.length := by simp [ByteArray.size]
  have hzi : (ByteArray.mk p.inside.toArray).size = p.inside.length := by simp [ByteArray.size]
  have hzr : (ByteArray.mk p.run.toArray).size = p.run.length := by simp [ByteArray.size]
  have hR := fun w => read_any p w ht hi
  have hsl' : (Pl.spEnd p.tag).length = p.tag.length + 2 := rfl
  rw [hsl'] at hr
  have te : ((p.read : Int) == (p.tag.length : Int) + 2) = false := by rw [beq_eq_false_iff_ne]; omega
  generalize p.read = rd at hR te
  have hTl := fun w => tail_app p.inside b w (by omega)
  have hIs := fun w => isString_any m w
  rw [hs] at hIs
  have h19 : ((m : Int) == 19) = false := by rw [beq_eq_false_iff_ne]; omega
  have hSt := fun w => spStep_any (Pl.Sp.mk m p.tag p.attr (Pl.tail12 (p.inside ++ [b])) p.run p.far) m b w rfl hm ht ha' hrl
  generalize (Pl.Sp.mk m p.tag p.attr (Pl.tail12 (p.inside ++ [b])) p.run p.far).step m b = N at hSt ⊢
  obtain ⟨nm, nt, na, ni', nr, nf⟩ := N
  generalize (Pl.tail12 (p.inside ++ [b])) = ni at hTl hSt ⊢
  unfold spVal spCells at hR hSt ⊢
  simp only at hR hSt ⊢
  rw [hpm] at hR ⊢
  have HR := (show Hid _ from hR)
  have HTl := (show Hid _ from hTl)
  have HIs := (show Hid _ from hIs)
  have HSt := (show Hid _ from hSt)
  clear hSt
  have HM := fun t t' cs hc => SpMid.start (w0 := w) p cs t t' hc
  unfold spCells at HM
  rw [hpm] at HM
  have HP : Hid (p.mode = ((m : Nat) : Int)) := hpm
  clear hR hTl hIs hr hsl' hpm hs hm19 
  go_enter Tryd.func62, Tryd.ntmps62
  go_wp2_with fail
  refine (HR.out _).mono ?_
  rintro e w1 ⟨rfl, hb1⟩
  have mid := (HM _ _ _ rfl).kept hb1
  clear hb1
  have q0 := mid.at'.mode
  have q1 := mid.at'.tag
  have q2 := mid.at'.attr
  have q3 := mid.at'.inside
  have q4 := mid.at'.run
  have q5 := mid.at'.far
  rw [HP.out] at q0
  have cv := one_here b w1 w1.heap.size rfl
  have cd := one_drew b w1 w1.heap.size rfl
  go_wp2_with fail
  refine (HTl.out _).mono ?_
  rintro e w2 ⟨rfl, hw2⟩
  have mid := mid.alloc (.cells #[.int .u8 b.toNat] 5)
  rw [hw2] at mid
  clear hw2 cv cd
  clear q0 q1 q2 q3 q4 q5
  have q0 := mid.at'.mode
  have q1 := mid.at'.tag
  have q2 := mid.at'.attr
  have q3 := mid.at'.inside
  have q4 := mid.at'.run
  have q5 := mid.at'.far
  have g0 := mid.slot.thaw 0
  have g1 := mid.slot.thaw 1
  have g2 := mid.slot.thaw 2
  have g3 := mid.slot.thaw 3
  have g4 := mid.slot.thaw 4
  have g5 := mid.slot.thaw 5
  rw [HP.out] at q0
  go_wp2_with fail
  refine (HIs.out _).mono ?_
  rintro e w3 ⟨rfl, hw3⟩
  have mid := mid.setInside ni
  rw [hw3] at mid
  clear hw3
  clear q0 q1 q2 q3 q4 q5 g0 g1 g2 g3 g4 g5
  have q0 := mid.at'.mode
  have q1 := mid.at'.tag
  have q2 := mid.at'.attr
  have q3 := mid.at'.inside
  have q4 := mid.at'.run
  have q5 := mid.at'.far
  have g0 := mid.slot.thaw 0
  have g1 := mid.slot.thaw 1
  have g2 := mid.slot.thaw 2
  have g3 := mid.slot.thaw 3
  have g4 := mid.slot.thaw 4
  have g5 := mid.slot.thaw 5
  obtain ⟨v0, p0⟩ := mid.res.cell 0 (by omega)
  have f0 := mid.res.thaw 0
  obtain ⟨v1, p1⟩ := mid.res.cell 1 (by omega)
  have f1 := mid.res.thaw 1
  obtain ⟨v2, p2⟩ := mid.res.cell 2 (by omega)
  have f2 := mid.res.thaw 2
  obtain ⟨v3, p3⟩ := mid.res.cell 3 (by omega)
  have f3 := mid.res.thaw 3
  obtain ⟨v4, p4⟩ := mid.res.cell 4 (by omega)
  have f4 := mid.res.thaw 4
  obtain ⟨v5, p5⟩ := mid.res.cell 5 (by omega)
  have f5 := mid.res.thaw 5
  rw [HP.out] at q0
  simp only at q1 q2 q3 q4 q5
  go_wp2_with fail
  refine (HSt.out _).mono ?_
  rintro e w4 ⟨rfl, hb4⟩
  have mid := mid.kept hb4
  clear hb4
  clear q0 q1 q2 q3 q4 q5 g0 g1 g2 g3 g4 g5 p0 p1 p2 p3 p4 p5 f0 f1 f2 f3 f4 f5 v0 v1 v2 v3 v4 v5
  obtain ⟨v0, p0⟩ := mid.res.cell 0 (by omega)
  have f0 := mid.res.thaw 0
  obtain ⟨v1, p1⟩ := mid.res.cell 1 (by omega)
  have f1 := mid.res.thaw 1
  obtain ⟨v2, p2⟩ := mid.res.cell 2 (by omega)
  have f2 := mid.res.thaw 2
  obtain ⟨v3, p3⟩ := mid.res.cell 3 (by omega)
  have f3 := mid.res.thaw 3
  obtain ⟨v4, p4⟩ := mid.res.cell 4 (by omega)
  have f4 := mid.res.thaw 4
  obtain ⟨v5, p5⟩ := mid.res.cell 5 (by omega)
  have f5 := mid.res.thaw 5
  go_wp2_with fail
  refine bodyPost_set6 Tryd.results62 (w.heap.size + 1) _ Tryd.underlying64 rfl (by kernel_rfl) rfl mid.res rfl _ _ _ _ _ _ ?_
  exact ⟨rfl, below_set6 mid.below (by simp) _ _ _ _ _ _⟩

set_option maxRecDepth 100000 in
set_option maxHeartbeats 3200000 in
theorem element_othB (p : Pl.Sp) (m : Nat) (b : UInt8) (w : World) (hpm : p.mode = m) (hm : m ≤ 33) (ht : p.tag.length ≤ 1000) (ha' : p.attr.length ≤ 1000) (hi : p.inside.length ≤ 1000) (hrl : p.run.length ≤ 10000000) (hr : p.read = (Pl.spEnd p.tag).length) (ha : Pl.among b Pl.endBytes = false) (hs : Pl.isStr m = false) (hm19 : ¬ m = 19) :
    Calls Tryd.prog 62 #[spVal p, .int .u8 b.toNat] w fun e w' => e = .returned (spVal ((Pl.Sp.mk m p.tag p.attr (Pl.tail12 (p.inside ++ [b])) p.run p.far).step m b)) ∧ Below w.heap.size w w' := by
  have hzt : (ByteArray.mk p.tag.toArray).size = p.tag.length := by simp [ByteArray.size]
  have hzi : (ByteArray.mk p.inside.toArray).size = p.inside.length := by simp [ByteArray.size]
  have hzr : (ByteArray.mk p.run.toArray).size = p.run.length := by simp [ByteArray.size]
  have hR := fun w => read_any p w ht hi
  have hsl' : (Pl.spEnd p.tag).length = p.tag.length + 2 := rfl
  rw [hsl'] at hr
  rw [hr] at hR
  have te : (((p.tag.length + 2 : Nat) : Int) == (p.tag.length : Int) + 2) = true := by rw [beq_iff_eq]; omega
  have hA := fun w => amongL b ⟨#[9, 10, 12, 13, 32, 47, 62]⟩ Pl.endBytes w rfl (by decide)
  rw [ha] at hA
  have HA := (show Hid _ from hA)
  clear hA ha
  have hTl := fun w => tail_app p.inside b w (by omega)
  have hIs := fun w => isString_any m w
  rw [hs] at hIs
  have h19 : ((m : Int) == 19) = false := by rw [beq_eq_false_iff_ne]; omega
  have hSt := fun w => spStep_any (Pl.Sp.mk m p.tag p.attr (Pl.tail12 (p.inside ++ [b])) p.run p.far) m b w rfl hm ht ha' hrl
  generalize (Pl.Sp.mk m p.tag p.attr (Pl.tail12 (p.inside ++ [b])) p.run p.far).step m b = N at hSt ⊢
  obtain ⟨nm, nt, na, ni', nr, nf⟩ := N
  generalize (Pl.tail12 (p.inside ++ [b])) = ni at hTl hSt ⊢
  unfold spVal spCells at hR hSt ⊢
  simp only at hR hSt ⊢
  rw [hpm] at hR ⊢
  have HR := (show Hid _ from hR)
  have HTl := (show Hid _ from hTl)
  have HIs := (show Hid _ from hIs)
  have HSt := (show Hid _ from hSt)
  clear hSt
  have HM := fun t t' cs hc => SpMid.start (w0 := w) p cs t t' hc
  unfold spCells at HM
  rw [hpm] at HM
  have HP : Hid (p.mode = ((m : Nat) : Int)) := hpm
  clear hR hTl hIs hr hsl' hpm hs hm19 
  go_enter Tryd.func62, Tryd.ntmps62
  go_wp2_with fail
  refine (HR.out _).mono ?_
  rintro e w1 ⟨rfl, hb1⟩
  have mid := (HM _ _ _ rfl).kept hb1
  clear hb1
  have q0 := mid.at'.mode
  have q1 := mid.at'.tag
  have q2 := mid.at'.attr
  have q3 := mid.at'.inside
  have q4 := mid.at'.run
  have q5 := mid.at'.far
  rw [HP.out] at q0
  have cv := one_here b w1 w1.heap.size rfl
  have cd := one_drew b w1 w1.heap.size rfl
  go_wp2_with (go_at_call 48; refine (HA.out _).mono ?_; rintro e w' ⟨rfl, rfl⟩)
  refine (HTl.out _).mono ?_
  rintro e w2 ⟨rfl, hw2⟩
  have mid := mid.alloc (.cells #[.int .u8 b.toNat] 5)
  rw [hw2] at mid
  clear hw2 cv cd
  clear q0 q1 q2 q3 q4 q5
  have q0 := mid.at'.mode
  have q1 := mid.at'.tag
  have q2 := mid.at'.attr
  have q3 := mid.at'.inside
  have q4 := mid.at'.run
  have q5 := mid.at'.far
  have g0 := mid.slot.thaw 0
  have g1 := mid.slot.thaw 1
  have g2 := mid.slot.thaw 2
  have g3 := mid.slot.thaw 3
  have g4 := mid.slot.thaw 4
  have g5 := mid.slot.thaw 5
  rw [HP.out] at q0
  go_wp2_with fail
  refine (HIs.out _).mono ?_
  rintro e w3 ⟨rfl, hw3⟩
  have mid := mid.setInside ni
  rw [hw3] at mid
  clear hw3
  clear q0 q1 q2 q3 q4 q5 g0 g1 g2 g3 g4 g5
  have q0 := mid.at'.mode
  have q1 := mid.at'.tag
  have q2 := mid.at'.attr
  have q3 := mid.at'.inside
  have q4 := mid.at'.run
  have q5 := mid.at'.far
  have g0 := mid.slot.thaw 0
  have g1 := mid.slot.thaw 1
  have g2 := mid.slot.thaw 2
  have g3 := mid.slot.thaw 3
  have g4 := mid.slot.thaw 4
  have g5 := mid.slot.thaw 5
  obtain ⟨v0, p0⟩ := mid.res.cell 0 (by omega)
  have f0 := mid.res.thaw 0
  obtain ⟨v1, p1⟩ := mid.res.cell 1 (by omega)
  have f1 := mid.res.thaw 1
  obtain ⟨v2, p2⟩ := mid.res.cell 2 (by omega)
  have f2 := mid.res.thaw 2
  obtain ⟨v3, p3⟩ := mid.res.cell 3 (by omega)
  have f3 := mid.res.thaw 3
  obtain ⟨v4, p4⟩ := mid.res.cell 4 (by omega)
  have f4 := mid.res.thaw 4
  obtain ⟨v5, p5⟩ := mid.res.cell 5 (by omega)
  have f5 := mid.res.thaw 5
  rw [HP.out] at q0
  simp only at q1 q2 q3 q4 q5
  go_wp2_with fail
  refine (HSt.out _).mono ?_
  rintro e w4 ⟨rfl, hb4⟩
  have mid := mid.kept hb4
  clear hb4
  clear q0 q1 q2 q3 q4 q5 g0 g1 g2 g3 g4 g5 p0 p1 p2 p3 p4 p5 f0 f1 f2 f3 f4 f5 v0 v1 v2 v3 v4 v5
  obtain ⟨v0, p0⟩ := mid.res.cell 0 (by omega)
  have f0 := mid.res.thaw 0
  obtain ⟨v1, p1⟩ := mid.res.cell 1 (by omega)
  have f1 := mid.res.thaw 1
  obtain ⟨v2, p2⟩ := mid.res.cell 2 (by omega)
  have f2 := mid.res.thaw 2
  obtain ⟨v3, p3⟩ := mid.res.cell 3 (by omega)
  have f3 := mid.res.thaw 3
  obtain ⟨v4, p4⟩ := mid.res.cell 4 (by omega)
  have f4 := mid.res.thaw 4
  obtain ⟨v5, p5⟩ := mid.res.cell 5 (by omega)
  have f5 := mid.res.thaw 5
  go_wp2_with fail
  refine bodyPost_set6 Tryd.results62 (w.heap.size + 1) _ Tryd.underlying64 rfl (by kernel_rfl) rfl mid.res rfl _ _ _ _ _ _ ?_
  exact ⟨rfl, below_set6 mid.below (by simp) _ _ _ _ _ _⟩

set_option maxRecDepth 100000 in
set_option maxHeartbeats 3200000 in
theorem element_strA (p : Pl.Sp) (m : Nat) (b : UInt8) (w : World) (hpm : p.mode = m) (hm : m ≤ 33) (ht : p.tag.length ≤ 1000) (ha' : p.attr.length ≤ 1000) (hi : p.inside.length ≤ 1000) (hrl : p.run.length ≤ 10000000) (hr : ¬ p.read = (Pl.spEnd p.tag).length) (hs : Pl.isStr m = true) (he : ¬ Pl.escOf (Pl.sheetly m) p.run = 1) :
    Calls Tryd.prog 62 #[spVal p, .int .u8 b.toNat] w fun e w' => e = .returned (spVal ((Pl.Sp.mk m p.tag p.attr (Pl.tail12 (p.inside ++ [b])) p.run p.far).step m b)) ∧ Below w.heap.size w w' := by
  have hzt : (ByteArray.mk p.tag.toArray).size = p.tag.length := by simp [ByteArray.size]
  have hzi : (ByteArray.mk p.inside.toArray).size = p.inside.length := by simp [ByteArray.size]
  have hzr : (ByteArray.mk p.run.toArray).size = p.run.length := by simp [ByteArray.size]
  have hR := fun w => read_any p w ht hi
  have hsl' : (Pl.spEnd p.tag).length = p.tag.length + 2 := rfl
  rw [hsl'] at hr
  have te : ((p.read : Int) == (p.tag.length : Int) + 2) = false := by rw [beq_eq_false_iff_ne]; omega
  generalize p.read = rd at hR te
  have hTl := fun w => tail_app p.inside b w (by omega)
  have hIs := fun w => isString_any m w
  rw [hs] at hIs
  have hE := fun w => escape_any ⟨p.run.toArray⟩ (Pl.sheetly m) w (by omega)
  rw [show (ByteArray.mk p.run.toArray).data.toList = p.run by simp] at hE
  have e1 : (Pl.escOf (Pl.sheetly m) p.run == 1) = false := by rw [beq_eq_false_iff_ne]; exact he
  have h19 : ((m : Int) == 19) = false := by
    rw [beq_eq_false_iff_ne]; intro q; rw [q] at hs; revert hs; decide
  unfold Pl.sheetly at hE e1
  generalize Pl.escOf _ p.run = ee at hE e1
  have HE := (show Hid _ from hE)
  have hSt := fun w => spStep_any (Pl.Sp.mk m p.tag p.attr (Pl.tail12 (p.inside ++ [b])) p.run p.far) m b w rfl hm ht ha' hrl
  generalize (Pl.Sp.mk m p.tag p.attr (Pl.tail12 (p.inside ++ [b])) p.run p.far).step m b = N at hSt ⊢
  obtain ⟨nm, nt, na, ni', nr, nf⟩ := N
  generalize (Pl.tail12 (p.inside ++ [b])) = ni at hTl hSt ⊢
  unfold spVal spCells at hR hSt ⊢
  simp only at hR hSt ⊢
  rw [hpm] at hR ⊢
  have HR := (show Hid _ from hR)
  have HTl := (show Hid _ from hTl)
  have HIs := (show Hid _ from hIs)
  have HSt := (show Hid _ from hSt)
  clear hSt
  have HM := fun t t' cs hc => SpMid.start (w0 := w) p cs t t' hc
  unfold spCells at HM
  rw [hpm] at HM
  have HP : Hid (p.mode = ((m : Nat) : Int)) := hpm
  clear hR hTl hIs hr hsl' hpm hE he hs 
  go_enter Tryd.func62, Tryd.ntmps62
  go_wp2_with fail
  refine (HR.out _).mono ?_
  rintro e w1 ⟨rfl, hb1⟩
  have mid := (HM _ _ _ rfl).kept hb1
  clear hb1
  have q0 := mid.at'.mode
  have q1 := mid.at'.tag
  have q2 := mid.at'.attr
  have q3 := mid.at'.inside
  have q4 := mid.at'.run
  have q5 := mid.at'.far
  rw [HP.out] at q0
  have cv := one_here b w1 w1.heap.size rfl
  have cd := one_drew b w1 w1.heap.size rfl
  go_wp2_with fail
  refine (HTl.out _).mono ?_
  rintro e w2 ⟨rfl, hw2⟩
  have mid := mid.alloc (.cells #[.int .u8 b.toNat] 5)
  rw [hw2] at mid
  clear hw2 cv cd
  clear q0 q1 q2 q3 q4 q5
  have q0 := mid.at'.mode
  have q1 := mid.at'.tag
  have q2 := mid.at'.attr
  have q3 := mid.at'.inside
  have q4 := mid.at'.run
  have q5 := mid.at'.far
  have g0 := mid.slot.thaw 0
  have g1 := mid.slot.thaw 1
  have g2 := mid.slot.thaw 2
  have g3 := mid.slot.thaw 3
  have g4 := mid.slot.thaw 4
  have g5 := mid.slot.thaw 5
  rw [HP.out] at q0
  go_wp2_with fail
  refine (HIs.out _).mono ?_
  rintro e w3 ⟨rfl, hw3⟩
  have mid := mid.setInside ni
  rw [hw3] at mid
  clear hw3
  clear q0 q1 q2 q3 q4 q5 g0 g1 g2 g3 g4 g5
  have q0 := mid.at'.mode
  have q1 := mid.at'.tag
  have q2 := mid.at'.attr
  have q3 := mid.at'.inside
  have q4 := mid.at'.run
  have q5 := mid.at'.far
  have g0 := mid.slot.thaw 0
  have g1 := mid.slot.thaw 1
  have g2 := mid.slot.thaw 2
  have g3 := mid.slot.thaw 3
  have g4 := mid.slot.thaw 4
  have g5 := mid.slot.thaw 5
  obtain ⟨v0, p0⟩ := mid.res.cell 0 (by omega)
  have f0 := mid.res.thaw 0
  obtain ⟨v1, p1⟩ := mid.res.cell 1 (by omega)
  have f1 := mid.res.thaw 1
  obtain ⟨v2, p2⟩ := mid.res.cell 2 (by omega)
  have f2 := mid.res.thaw 2
  obtain ⟨v3, p3⟩ := mid.res.cell 3 (by omega)
  have f3 := mid.res.thaw 3
  obtain ⟨v4, p4⟩ := mid.res.cell 4 (by omega)
  have f4 := mid.res.thaw 4
  obtain ⟨v5, p5⟩ := mid.res.cell 5 (by omega)
  have f5 := mid.res.thaw 5
  rw [HP.out] at q0
  simp only at q1 q2 q3 q4 q5
  go_wp2_with (go_at_call 82; refine (HE.out _).mono ?_; rintro e w' ⟨rfl, rfl⟩)
  refine (HSt.out _).mono ?_
  rintro e w4 ⟨rfl, hb4⟩
  have mid := mid.kept hb4
  clear hb4
  clear q0 q1 q2 q3 q4 q5 g0 g1 g2 g3 g4 g5 p0 p1 p2 p3 p4 p5 f0 f1 f2 f3 f4 f5 v0 v1 v2 v3 v4 v5
  obtain ⟨v0, p0⟩ := mid.res.cell 0 (by omega)
  have f0 := mid.res.thaw 0
  obtain ⟨v1, p1⟩ := mid.res.cell 1 (by omega)
  have f1 := mid.res.thaw 1
  obtain ⟨v2, p2⟩ := mid.res.cell 2 (by omega)
  have f2 := mid.res.thaw 2
  obtain ⟨v3, p3⟩ := mid.res.cell 3 (by omega)
  have f3 := mid.res.thaw 3
  obtain ⟨v4, p4⟩ := mid.res.cell 4 (by omega)
  have f4 := mid.res.thaw 4
  obtain ⟨v5, p5⟩ := mid.res.cell 5 (by omega)
  have f5 := mid.res.thaw 5
  go_wp2_with fail
  refine bodyPost_set6 Tryd.results62 (w.heap.size + 1) _ Tryd.underlying64 rfl (by kernel_rfl) rfl mid.res rfl _ _ _ _ _ _ ?_
  exact ⟨rfl, below_set6 mid.below (by simp) _ _ _ _ _ _⟩

set_option maxRecDepth 100000 in
set_option maxHeartbeats 3200000 in
theorem element_strB (p : Pl.Sp) (m : Nat) (b : UInt8) (w : World) (hpm : p.mode = m) (hm : m ≤ 33) (ht : p.tag.length ≤ 1000) (ha' : p.attr.length ≤ 1000) (hi : p.inside.length ≤ 1000) (hrl : p.run.length ≤ 10000000) (hr : p.read = (Pl.spEnd p.tag).length) (ha : Pl.among b Pl.endBytes = false) (hs : Pl.isStr m = true) (he : ¬ Pl.escOf (Pl.sheetly m) p.run = 1) :
    Calls Tryd.prog 62 #[spVal p, .int .u8 b.toNat] w fun e w' => e = .returned (spVal ((Pl.Sp.mk m p.tag p.attr (Pl.tail12 (p.inside ++ [b])) p.run p.far).step m b)) ∧ Below w.heap.size w w' := by
  have hzt : (ByteArray.mk p.tag.toArray).size = p.tag.length := by simp [ByteArray.size]
  have hzi : (ByteArray.mk p.inside.toArray).size = p.inside.length := by simp [ByteArray.size]
  have hzr : (ByteArray.mk p.run.toArray).size = p.run.length := by simp [ByteArray.size]
  have hR := fun w => read_any p w ht hi
  have hsl' : (Pl.spEnd p.tag).length = p.tag.length + 2 := rfl
  rw [hsl'] at hr
  rw [hr] at hR
  have te : (((p.tag.length + 2 : Nat) : Int) == (p.tag.length : Int) + 2) = true := by rw [beq_iff_eq]; omega
  have hA := fun w => amongL b ⟨#[9, 10, 12, 13, 32, 47, 62]⟩ Pl.endBytes w rfl (by decide)
  rw [ha] at hA
  have HA := (show Hid _ from hA)
  clear hA ha
  have hTl := fun w => tail_app p.inside b w (by omega)
  have hIs := fun w => isString_any m w
  rw [hs] at hIs
  have hE := fun w => escape_any ⟨p.run.toArray⟩ (Pl.sheetly m) w (by omega)
  rw [show (ByteArray.mk p.run.toArray).data.toList = p.run by simp] at hE
  have e1 : (Pl.escOf (Pl.sheetly m) p.run == 1) = false := by rw [beq_eq_false_iff_ne]; exact he
  have h19 : ((m : Int) == 19) = false := by
    rw [beq_eq_false_iff_ne]; intro q; rw [q] at hs; revert hs; decide
  unfold Pl.sheetly at hE e1
  generalize Pl.escOf _ p.run = ee at hE e1
  have HE := (show Hid _ from hE)
  have hSt := fun w => spStep_any (Pl.Sp.mk m p.tag p.attr (Pl.tail12 (p.inside ++ [b])) p.run p.far) m b w rfl hm ht ha' hrl
  generalize (Pl.Sp.mk m p.tag p.attr (Pl.tail12 (p.inside ++ [b])) p.run p.far).step m b = N at hSt ⊢
  obtain ⟨nm, nt, na, ni', nr, nf⟩ := N
  generalize (Pl.tail12 (p.inside ++ [b])) = ni at hTl hSt ⊢
  unfold spVal spCells at hR hSt ⊢
  simp only at hR hSt ⊢
  rw [hpm] at hR ⊢
  have HR := (show Hid _ from hR)
  have HTl := (show Hid _ from hTl)
  have HIs := (show Hid _ from hIs)
  have HSt := (show Hid _ from hSt)
  clear hSt
  have HM := fun t t' cs hc => SpMid.start (w0 := w) p cs t t' hc
  unfold spCells at HM
  rw [hpm] at HM
  have HP : Hid (p.mode = ((m : Nat) : Int)) := hpm
  clear hR hTl hIs hr hsl' hpm hE he hs 
  go_enter Tryd.func62, Tryd.ntmps62
  go_wp2_with fail
  refine (HR.out _).mono ?_
  rintro e w1 ⟨rfl, hb1⟩
  have mid := (HM _ _ _ rfl).kept hb1
  clear hb1
  have q0 := mid.at'.mode
  have q1 := mid.at'.tag
  have q2 := mid.at'.attr
  have q3 := mid.at'.inside
  have q4 := mid.at'.run
  have q5 := mid.at'.far
  rw [HP.out] at q0
  have cv := one_here b w1 w1.heap.size rfl
  have cd := one_drew b w1 w1.heap.size rfl
  go_wp2_with (go_at_call 48; refine (HA.out _).mono ?_; rintro e w' ⟨rfl, rfl⟩)
  refine (HTl.out _).mono ?_
  rintro e w2 ⟨rfl, hw2⟩
  have mid := mid.alloc (.cells #[.int .u8 b.toNat] 5)
  rw [hw2] at mid
  clear hw2 cv cd
  clear q0 q1 q2 q3 q4 q5
  have q0 := mid.at'.mode
  have q1 := mid.at'.tag
  have q2 := mid.at'.attr
  have q3 := mid.at'.inside
  have q4 := mid.at'.run
  have q5 := mid.at'.far
  have g0 := mid.slot.thaw 0
  have g1 := mid.slot.thaw 1
  have g2 := mid.slot.thaw 2
  have g3 := mid.slot.thaw 3
  have g4 := mid.slot.thaw 4
  have g5 := mid.slot.thaw 5
  rw [HP.out] at q0
  go_wp2_with fail
  refine (HIs.out _).mono ?_
  rintro e w3 ⟨rfl, hw3⟩
  have mid := mid.setInside ni
  rw [hw3] at mid
  clear hw3
  clear q0 q1 q2 q3 q4 q5 g0 g1 g2 g3 g4 g5
  have q0 := mid.at'.mode
  have q1 := mid.at'.tag
  have q2 := mid.at'.attr
  have q3 := mid.at'.inside
  have q4 := mid.at'.run
  have q5 := mid.at'.far
  have g0 := mid.slot.thaw 0
  have g1 := mid.slot.thaw 1
  have g2 := mid.slot.thaw 2
  have g3 := mid.slot.thaw 3
  have g4 := mid.slot.thaw 4
  have g5 := mid.slot.thaw 5
  obtain ⟨v0, p0⟩ := mid.res.cell 0 (by omega)
  have f0 := mid.res.thaw 0
  obtain ⟨v1, p1⟩ := mid.res.cell 1 (by omega)
  have f1 := mid.res.thaw 1
  obtain ⟨v2, p2⟩ := mid.res.cell 2 (by omega)
  have f2 := mid.res.thaw 2
  obtain ⟨v3, p3⟩ := mid.res.cell 3 (by omega)
  have f3 := mid.res.thaw 3
  obtain ⟨v4, p4⟩ := mid.res.cell 4 (by omega)
  have f4 := mid.res.thaw 4
  obtain ⟨v5, p5⟩ := mid.res.cell 5 (by omega)
  have f5 := mid.res.thaw 5
  rw [HP.out] at q0
  simp only at q1 q2 q3 q4 q5
  go_wp2_with (go_at_call 82; refine (HE.out _).mono ?_; rintro e w' ⟨rfl, rfl⟩)
  refine (HSt.out _).mono ?_
  rintro e w4 ⟨rfl, hb4⟩
  have mid := mid.kept hb4
  clear hb4
  clear q0 q1 q2 q3 q4 q5 g0 g1 g2 g3 g4 g5 p0 p1 p2 p3 p4 p5 f0 f1 f2 f3 f4 f5 v0 v1 v2 v3 v4 v5
  obtain ⟨v0, p0⟩ := mid.res.cell 0 (by omega)
  have f0 := mid.res.thaw 0
  obtain ⟨v1, p1⟩ := mid.res.cell 1 (by omega)
  have f1 := mid.res.thaw 1
  obtain ⟨v2, p2⟩ := mid.res.cell 2 (by omega)
  have f2 := mid.res.thaw 2
  obtain ⟨v3, p3⟩ := mid.res.cell 3 (by omega)
  have f3 := mid.res.thaw 3
  obtain ⟨v4, p4⟩ := mid.res.cell 4 (by omega)
  have f4 := mid.res.thaw 4
  obtain ⟨v5, p5⟩ := mid.res.cell 5 (by omega)
  have f5 := mid.res.thaw 5
  go_wp2_with fail
  refine bodyPost_set6 Tryd.results62 (w.heap.size + 1) _ Tryd.underlying64 rfl (by kernel_rfl) rfl mid.res rfl _ _ _ _ _ _ ?_
  exact ⟨rfl, below_set6 mid.below (by simp) _ _ _ _ _ _⟩

set_option maxRecDepth 100000 in
set_option maxHeartbeats 3200000 in
theorem element_softA (p : Pl.Sp) (m : Nat) (b : UInt8) (w : World) (hpm : p.mode = m) (hm : m ≤ 33) (ht : p.tag.length ≤ 1000) (hi : p.inside.length ≤ 1000) (hrl : p.run.length ≤ 10000000) (hr : ¬ p.read = (Pl.spEnd p.tag).length) (hm19 : m = 19) :
    Calls Tryd.prog 62 #[spVal p, .int .u8 b.toNat] w fun e w' => e = .returned (spVal ⟨m, p.tag, p.attr, (Pl.tail12 (p.inside ++ [b])), Pl.kept m (p.run ++ [b]), p.far⟩) ∧ Below w.heap.size w w' := by
  have hzt : (ByteArray.mk p.tag.toArray).size = p.tag.length := by simp [ByteArray.size]
  have hzi : (ByteArray.mk p.inside.toArray).size = p.inside.length := by simp [ByteArray.size]
  have hzr : (ByteArray.mk p.run.toArray).size = p.run.length := by simp [ByteArray.size]
  have hR := fun w => read_any p w ht hi
  have hsl' : (Pl.spEnd p.tag).length = p.tag.length + 2 := rfl
  rw [hsl'] at hr
  have te : ((p.read : Int) == (p.tag.length : Int) + 2) = false := by rw [beq_eq_false_iff_ne]; omega
  generalize p.read = rd at hR te
  subst hm19
  have hTl := fun w => tail_app p.inside b w (by omega)
  have hIs := fun w => isString_any 19 w
  rw [show Pl.isStr 19 = false by decide] at hIs
  have hK := fun w => kept_app ((19 : Nat) : Int) p.run b w hrl
  generalize Pl.kept _ (p.run ++ [b]) = kr at hK ⊢
  have HK := (show Hid _ from hK)
  generalize (Pl.tail12 (p.inside ++ [b])) = ni at hTl ⊢
  unfold spVal spCells at hR ⊢
  simp only at hR ⊢
  rw [hpm] at hR ⊢
  have HR := (show Hid _ from hR)
  have HTl := (show Hid _ from hTl)
  have HIs := (show Hid _ from hIs)
  have HM := fun t t' cs hc => SpMid.start (w0 := w) p cs t t' hc
  unfold spCells at HM
  rw [hpm] at HM
  have HP : Hid (p.mode = ((19 : Nat) : Int)) := hpm
  clear hR hTl hIs hr hsl' hpm hK 
  go_enter Tryd.func62, Tryd.ntmps62
  go_wp2_with fail
  refine (HR.out _).mono ?_
  rintro e w1 ⟨rfl, hb1⟩
  have mid := (HM _ _ _ rfl).kept hb1
  clear hb1
  have q0 := mid.at'.mode
  have q1 := mid.at'.tag
  have q2 := mid.at'.attr
  have q3 := mid.at'.inside
  have q4 := mid.at'.run
  have q5 := mid.at'.far
  rw [HP.out] at q0
  have cv := one_here b w1 w1.heap.size rfl
  have cd := one_drew b w1 w1.heap.size rfl
  go_wp2_with fail
  refine (HTl.out _).mono ?_
  rintro e w2 ⟨rfl, hw2⟩
  have mid := mid.alloc (.cells #[.int .u8 b.toNat] 5)
  rw [hw2] at mid
  clear hw2 cv cd
  clear q0 q1 q2 q3 q4 q5
  have q0 := mid.at'.mode
  have q1 := mid.at'.tag
  have q2 := mid.at'.attr
  have q3 := mid.at'.inside
  have q4 := mid.at'.run
  have q5 := mid.at'.far
  have g0 := mid.slot.thaw 0
  have g1 := mid.slot.thaw 1
  have g2 := mid.slot.thaw 2
  have g3 := mid.slot.thaw 3
  have g4 := mid.slot.thaw 4
  have g5 := mid.slot.thaw 5
  rw [HP.out] at q0
  go_wp2_with fail
  refine (HIs.out _).mono ?_
  rintro e w3 ⟨rfl, hw3⟩
  have mid := mid.setInside ni
  rw [hw3] at mid
  clear hw3
  clear q0 q1 q2 q3 q4 q5 g0 g1 g2 g3 g4 g5
  have q0 := mid.at'.mode
  have q1 := mid.at'.tag
  have q2 := mid.at'.attr
  have q3 := mid.at'.inside
  have q4 := mid.at'.run
  have q5 := mid.at'.far
  rw [HP.out] at q0
  simp only at q1 q2 q3 q4 q5
  have mid := mid.alloc (.cells #[.int .u8 b.toNat] 5)
  have a0 := mid.at'.mode
  have a1 := mid.at'.tag
  have a2 := mid.at'.attr
  have a3 := mid.at'.inside
  have a4 := mid.at'.run
  have a5 := mid.at'.far
  rw [HP.out] at a0
  simp only at a1 a2 a3 a4 a5
  have g0 := mid.slot.thaw 0
  have g1 := mid.slot.thaw 1
  have g2 := mid.slot.thaw 2
  have g3 := mid.slot.thaw 3
  have g4 := mid.slot.thaw 4
  have g5 := mid.slot.thaw 5
  obtain ⟨v0, p0⟩ := mid.res.cell 0 (by omega)
  have f0 := mid.res.thaw 0
  obtain ⟨v1, p1⟩ := mid.res.cell 1 (by omega)
  have f1 := mid.res.thaw 1
  obtain ⟨v2, p2⟩ := mid.res.cell 2 (by omega)
  have f2 := mid.res.thaw 2
  obtain ⟨v3, p3⟩ := mid.res.cell 3 (by omega)
  have f3 := mid.res.thaw 3
  obtain ⟨v4, p4⟩ := mid.res.cell 4 (by omega)
  have f4 := mid.res.thaw 4
  obtain ⟨v5, p5⟩ := mid.res.cell 5 (by omega)
  have f5 := mid.res.thaw 5
  have cv := one_here b w3 w3.heap.size rfl
  have cd := one_drew b w3 w3.heap.size rfl
  go_wp2_with (go_at_call 83; refine (HK.out _).mono ?_; rintro e w' ⟨rfl, rfl⟩)
  refine bodyPost_set6 Tryd.results62 (w.heap.size + 1) _ Tryd.underlying64 rfl (by kernel_rfl) rfl (mid.res.put w.heap.size 4 _ (by omega)) rfl _ _ _ _ _ _ ?_
  exact ⟨rfl, below_set6 (mid.below.setCell (p := ⟨w.heap.size, 4, none⟩) (Nat.le_refl _) _) (by simp) _ _ _ _ _ _⟩

set_option maxRecDepth 100000 in
set_option maxHeartbeats 3200000 in
theorem element_softB (p : Pl.Sp) (m : Nat) (b : UInt8) (w : World) (hpm : p.mode = m) (hm : m ≤ 33) (ht : p.tag.length ≤ 1000) (hi : p.inside.length ≤ 1000) (hrl : p.run.length ≤ 10000000) (hr : p.read = (Pl.spEnd p.tag).length) (ha : Pl.among b Pl.endBytes = false) (hm19 : m = 19) :
    Calls Tryd.prog 62 #[spVal p, .int .u8 b.toNat] w fun e w' => e = .returned (spVal ⟨m, p.tag, p.attr, (Pl.tail12 (p.inside ++ [b])), Pl.kept m (p.run ++ [b]), p.far⟩) ∧ Below w.heap.size w w' := by
  have hzt : (ByteArray.mk p.tag.toArray).size = p.tag.length := by simp [ByteArray.size]
  have hzi : (ByteArray.mk p.inside.toArray).size = p.inside.length := by simp [ByteArray.size]
  have hzr : (ByteArray.mk p.run.toArray).size = p.run.length := by simp [ByteArray.size]
  have hR := fun w => read_any p w ht hi
  have hsl' : (Pl.spEnd p.tag).length = p.tag.length + 2 := rfl
  rw [hsl'] at hr
  rw [hr] at hR
  have te : (((p.tag.length + 2 : Nat) : Int) == (p.tag.length : Int) + 2) = true := by rw [beq_iff_eq]; omega
  have hA := fun w => amongL b ⟨#[9, 10, 12, 13, 32, 47, 62]⟩ Pl.endBytes w rfl (by decide)
  rw [ha] at hA
  have HA := (show Hid _ from hA)
  clear hA ha
  subst hm19
  have hTl := fun w => tail_app p.inside b w (by omega)
  have hIs := fun w => isString_any 19 w
  rw [show Pl.isStr 19 = false by decide] at hIs
  have hK := fun w => kept_app ((19 : Nat) : Int) p.run b w hrl
  generalize Pl.kept _ (p.run ++ [b]) = kr at hK ⊢
  have HK := (show Hid _ from hK)
  generalize (Pl.tail12 (p.inside ++ [b])) = ni at hTl ⊢
  unfold spVal spCells at hR ⊢
  simp only at hR ⊢
  rw [hpm] at hR ⊢
  have HR := (show Hid _ from hR)
  have HTl := (show Hid _ from hTl)
  have HIs := (show Hid _ from hIs)
  have HM := fun t t' cs hc => SpMid.start (w0 := w) p cs t t' hc
  unfold spCells at HM
  rw [hpm] at HM
  have HP : Hid (p.mode = ((19 : Nat) : Int)) := hpm
  clear hR hTl hIs hr hsl' hpm hK 
  go_enter Tryd.func62, Tryd.ntmps62
  go_wp2_with fail
  refine (HR.out _).mono ?_
  rintro e w1 ⟨rfl, hb1⟩
  have mid := (HM _ _ _ rfl).kept hb1
  clear hb1
  have q0 := mid.at'.mode
  have q1 := mid.at'.tag
  have q2 := mid.at'.attr
  have q3 := mid.at'.inside
  have q4 := mid.at'.run
  have q5 := mid.at'.far
  rw [HP.out] at q0
  have cv := one_here b w1 w1.heap.size rfl
  have cd := one_drew b w1 w1.heap.size rfl
  go_wp2_with (go_at_call 48; refine (HA.out _).mono ?_; rintro e w' ⟨rfl, rfl⟩)
  refine (HTl.out _).mono ?_
  rintro e w2 ⟨rfl, hw2⟩
  have mid := mid.alloc (.cells #[.int .u8 b.toNat] 5)
  rw [hw2] at mid
  clear hw2 cv cd
  clear q0 q1 q2 q3 q4 q5
  have q0 := mid.at'.mode
  have q1 := mid.at'.tag
  have q2 := mid.at'.attr
  have q3 := mid.at'.inside
  have q4 := mid.at'.run
  have q5 := mid.at'.far
  have g0 := mid.slot.thaw 0
  have g1 := mid.slot.thaw 1
  have g2 := mid.slot.thaw 2
  have g3 := mid.slot.thaw 3
  have g4 := mid.slot.thaw 4
  have g5 := mid.slot.thaw 5
  rw [HP.out] at q0
  go_wp2_with fail
  refine (HIs.out _).mono ?_
  rintro e w3 ⟨rfl, hw3⟩
  have mid := mid.setInside ni
  rw [hw3] at mid
  clear hw3
  clear q0 q1 q2 q3 q4 q5 g0 g1 g2 g3 g4 g5
  have q0 := mid.at'.mode
  have q1 := mid.at'.tag
  have q2 := mid.at'.attr
  have q3 := mid.at'.inside
  have q4 := mid.at'.run
  have q5 := mid.at'.far
  rw [HP.out] at q0
  simp only at q1 q2 q3 q4 q5
  have mid := mid.alloc (.cells #[.int .u8 b.toNat] 5)
  have a0 := mid.at'.mode
  have a1 := mid.at'.tag
  have a2 := mid.at'.attr
  have a3 := mid.at'.inside
  have a4 := mid.at'.run
  have a5 := mid.at'.far
  rw [HP.out] at a0
  simp only at a1 a2 a3 a4 a5
  have g0 := mid.slot.thaw 0
  have g1 := mid.slot.thaw 1
  have g2 := mid.slot.thaw 2
  have g3 := mid.slot.thaw 3
  have g4 := mid.slot.thaw 4
  have g5 := mid.slot.thaw 5
  obtain ⟨v0, p0⟩ := mid.res.cell 0 (by omega)
  have f0 := mid.res.thaw 0
  obtain ⟨v1, p1⟩ := mid.res.cell 1 (by omega)
  have f1 := mid.res.thaw 1
  obtain ⟨v2, p2⟩ := mid.res.cell 2 (by omega)
  have f2 := mid.res.thaw 2
  obtain ⟨v3, p3⟩ := mid.res.cell 3 (by omega)
  have f3 := mid.res.thaw 3
  obtain ⟨v4, p4⟩ := mid.res.cell 4 (by omega)
  have f4 := mid.res.thaw 4
  obtain ⟨v5, p5⟩ := mid.res.cell 5 (by omega)
  have f5 := mid.res.thaw 5
  have cv := one_here b w3 w3.heap.size rfl
  have cd := one_drew b w3 w3.heap.size rfl
  go_wp2_with (go_at_call 83; refine (HK.out _).mono ?_; rintro e w' ⟨rfl, rfl⟩)
  refine bodyPost_set6 Tryd.results62 (w.heap.size + 1) _ Tryd.underlying64 rfl (by kernel_rfl) rfl (mid.res.put w.heap.size 4 _ (by omega)) rfl _ _ _ _ _ _ ?_
  exact ⟨rfl, below_set6 (mid.below.setCell (p := ⟨w.heap.size, 4, none⟩) (Nat.le_refl _) _) (by simp) _ _ _ _ _ _⟩

set_option maxRecDepth 100000 in
set_option maxHeartbeats 3200000 in
theorem element_escA (p : Pl.Sp) (m : Nat) (b : UInt8) (w : World) (hpm : p.mode = m) (ht : p.tag.length ≤ 1000) (hi : p.inside.length ≤ 1000) (hrl : p.run.length ≤ 10000000) (hr : ¬ p.read = (Pl.spEnd p.tag).length) (hs : Pl.isStr m = true) (he : Pl.escOf (Pl.sheetly m) p.run = 1) :
    Calls Tryd.prog 62 #[spVal p, .int .u8 b.toNat] w fun e w' => e = .returned (spVal ⟨m, p.tag, p.attr, (Pl.tail12 (p.inside ++ [b])), p.run ++ [b], p.far⟩) ∧ Below w.heap.size w w' := by
  have hzt : (ByteArray.mk p.tag.toArray).size = p.tag.length := by simp [ByteArray.size]
  have hzi : (ByteArray.mk p.inside.toArray).size = p.inside.length := by simp [ByteArray.size]
  have hzr : (ByteArray.mk p.run.toArray).size = p.run.length := by simp [ByteArray.size]
  have hR := fun w => read_any p w ht hi
  have hsl' : (Pl.spEnd p.tag).length = p.tag.length + 2 := rfl
  rw [hsl'] at hr
  have te : ((p.read : Int) == (p.tag.length : Int) + 2) = false := by rw [beq_eq_false_iff_ne]; omega
  generalize p.read = rd at hR te
  have hTl := fun w => tail_app p.inside b w (by omega)
  have hIs := fun w => isString_any m w
  rw [hs] at hIs
  have hE := fun w => escape_any ⟨p.run.toArray⟩ (Pl.sheetly m) w (by omega)
  rw [show (ByteArray.mk p.run.toArray).data.toList = p.run by simp] at hE
  rw [he] at hE
  unfold Pl.sheetly at hE
  have HE := (show Hid _ from hE)
  generalize (Pl.tail12 (p.inside ++ [b])) = ni at hTl ⊢
  unfold spVal spCells at hR ⊢
  simp only at hR ⊢
  rw [show (ByteArray.mk (p.run ++ [b]).toArray) = ByteArray.mk p.run.toArray ++ ByteArray.mk #[b] by apply ByteArray.ext; simp]
  rw [hpm] at hR ⊢
  have HR := (show Hid _ from hR)
  have HTl := (show Hid _ from hTl)
  have HIs := (show Hid _ from hIs)
  have HM := fun t t' cs hc => SpMid.start (w0 := w) p cs t t' hc
  unfold spCells at HM
  rw [hpm] at HM
  have HP : Hid (p.mode = ((m : Nat) : Int)) := hpm
  clear hR hTl hIs hr hsl' hpm hE he hs 
  go_enter Tryd.func62, Tryd.ntmps62
  go_wp2_with fail
  refine (HR.out _).mono ?_
  rintro e w1 ⟨rfl, hb1⟩
  have mid := (HM _ _ _ rfl).kept hb1
  clear hb1
  have q0 := mid.at'.mode
  have q1 := mid.at'.tag
  have q2 := mid.at'.attr
  have q3 := mid.at'.inside
  have q4 := mid.at'.run
  have q5 := mid.at'.far
  rw [HP.out] at q0
  have cv := one_here b w1 w1.heap.size rfl
  have cd := one_drew b w1 w1.heap.size rfl
  go_wp2_with fail
  refine (HTl.out _).mono ?_
  rintro e w2 ⟨rfl, hw2⟩
  have mid := mid.alloc (.cells #[.int .u8 b.toNat] 5)
  rw [hw2] at mid
  clear hw2 cv cd
  clear q0 q1 q2 q3 q4 q5
  have q0 := mid.at'.mode
  have q1 := mid.at'.tag
  have q2 := mid.at'.attr
  have q3 := mid.at'.inside
  have q4 := mid.at'.run
  have q5 := mid.at'.far
  have g0 := mid.slot.thaw 0
  have g1 := mid.slot.thaw 1
  have g2 := mid.slot.thaw 2
  have g3 := mid.slot.thaw 3
  have g4 := mid.slot.thaw 4
  have g5 := mid.slot.thaw 5
  rw [HP.out] at q0
  go_wp2_with fail
  refine (HIs.out _).mono ?_
  rintro e w3 ⟨rfl, hw3⟩
  have mid := mid.setInside ni
  rw [hw3] at mid
  clear hw3
  clear q0 q1 q2 q3 q4 q5 g0 g1 g2 g3 g4 g5
  have q0 := mid.at'.mode
  have q1 := mid.at'.tag
  have q2 := mid.at'.attr
  have q3 := mid.at'.inside
  have q4 := mid.at'.run
  have q5 := mid.at'.far
  rw [HP.out] at q0
  simp only at q1 q2 q3 q4 q5
  have mid := mid.alloc (.cells #[.int .u8 b.toNat] 5)
  have a0 := mid.at'.mode
  have a1 := mid.at'.tag
  have a2 := mid.at'.attr
  have a3 := mid.at'.inside
  have a4 := mid.at'.run
  have a5 := mid.at'.far
  rw [HP.out] at a0
  simp only at a1 a2 a3 a4 a5
  have g0 := mid.slot.thaw 0
  have g1 := mid.slot.thaw 1
  have g2 := mid.slot.thaw 2
  have g3 := mid.slot.thaw 3
  have g4 := mid.slot.thaw 4
  have g5 := mid.slot.thaw 5
  obtain ⟨v0, p0⟩ := mid.res.cell 0 (by omega)
  have f0 := mid.res.thaw 0
  obtain ⟨v1, p1⟩ := mid.res.cell 1 (by omega)
  have f1 := mid.res.thaw 1
  obtain ⟨v2, p2⟩ := mid.res.cell 2 (by omega)
  have f2 := mid.res.thaw 2
  obtain ⟨v3, p3⟩ := mid.res.cell 3 (by omega)
  have f3 := mid.res.thaw 3
  obtain ⟨v4, p4⟩ := mid.res.cell 4 (by omega)
  have f4 := mid.res.thaw 4
  obtain ⟨v5, p5⟩ := mid.res.cell 5 (by omega)
  have f5 := mid.res.thaw 5
  have cv := one_here b w3 w3.heap.size rfl
  have cd := one_drew b w3 w3.heap.size rfl
  go_wp2_with (go_at_call 82; refine (HE.out _).mono ?_; rintro e w' ⟨rfl, rfl⟩)
  refine bodyPost_set6 Tryd.results62 (w.heap.size + 1) _ Tryd.underlying64 rfl (by kernel_rfl) rfl (mid.res.put w.heap.size 4 _ (by omega)) rfl _ _ _ _ _ _ ?_
  exact ⟨rfl, below_set6 (mid.below.setCell (p := ⟨w.heap.size, 4, none⟩) (Nat.le_refl _) _) (by simp) _ _ _ _ _ _⟩

set_option maxRecDepth 100000 in
set_option maxHeartbeats 3200000 in
theorem element_escB (p : Pl.Sp) (m : Nat) (b : UInt8) (w : World) (hpm : p.mode = m) (ht : p.tag.length ≤ 1000) (hi : p.inside.length ≤ 1000) (hrl : p.run.length ≤ 10000000) (hr : p.read = (Pl.spEnd p.tag).length) (ha : Pl.among b Pl.endBytes = false) (hs : Pl.isStr m = true) (he : Pl.escOf (Pl.sheetly m) p.run = 1) :
    Calls Tryd.prog 62 #[spVal p, .int .u8 b.toNat] w fun e w' => e = .returned (spVal ⟨m, p.tag, p.attr, (Pl.tail12 (p.inside ++ [b])), p.run ++ [b], p.far⟩) ∧ Below w.heap.size w w' := by
  have hzt : (ByteArray.mk p.tag.toArray).size = p.tag.length := by simp [ByteArray.size]
  have hzi : (ByteArray.mk p.inside.toArray).size = p.inside.length := by simp [ByteArray.size]
  have hzr : (ByteArray.mk p.run.toArray).size = p.run.length := by simp [ByteArray.size]
  have hR := fun w => read_any p w ht hi
  have hsl' : (Pl.spEnd p.tag).length = p.tag.length + 2 := rfl
  rw [hsl'] at hr
  rw [hr] at hR
  have te : (((p.tag.length + 2 : Nat) : Int) == (p.tag.length : Int) + 2) = true := by rw [beq_iff_eq]; omega
  have hA := fun w => amongL b ⟨#[9, 10, 12, 13, 32, 47, 62]⟩ Pl.endBytes w rfl (by decide)
  rw [ha] at hA
  have HA := (show Hid _ from hA)
  clear hA ha
  have hTl := fun w => tail_app p.inside b w (by omega)
  have hIs := fun w => isString_any m w
  rw [hs] at hIs
  have hE := fun w => escape_any ⟨p.run.toArray⟩ (Pl.sheetly m) w (by omega)
  rw [show (ByteArray.mk p.run.toArray).data.toList = p.run by simp] at hE
  rw [he] at hE
  unfold Pl.sheetly at hE
  have HE := (show Hid _ from hE)
  generalize (Pl.tail12 (p.inside ++ [b])) = ni at hTl ⊢
  unfold spVal spCells at hR ⊢
  simp only at hR ⊢
  rw [show (ByteArray.mk (p.run ++ [b]).toArray) = ByteArray.mk p.run.toArray ++ ByteArray.mk #[b] by apply ByteArray.ext; simp]
  rw [hpm] at hR ⊢
  have HR := (show Hid _ from hR)
  have HTl := (show Hid _ from hTl)
  have HIs := (show Hid _ from hIs)
  have HM := fun t t' cs hc => SpMid.start (w0 := w) p cs t t' hc
  unfold spCells at HM
  rw [hpm] at HM
  have HP : Hid (p.mode = ((m : Nat) : Int)) := hpm
  clear hR hTl hIs hr hsl' hpm hE he hs 
  go_enter Tryd.func62, Tryd.ntmps62
  go_wp2_with fail
  refine (HR.out _).mono ?_
  rintro e w1 ⟨rfl, hb1⟩
  have mid := (HM _ _ _ rfl).kept hb1
  clear hb1
  have q0 := mid.at'.mode
  have q1 := mid.at'.tag
  have q2 := mid.at'.attr
  have q3 := mid.at'.inside
  have q4 := mid.at'.run
  have q5 := mid.at'.far
  rw [HP.out] at q0
  have cv := one_here b w1 w1.heap.size rfl
  have cd := one_drew b w1 w1.heap.size rfl
  go_wp2_with (go_at_call 48; refine (HA.out _).mono ?_; rintro e w' ⟨rfl, rfl⟩)
  refine (HTl.out _).mono ?_
  rintro e w2 ⟨rfl, hw2⟩
  have mid := mid.alloc (.cells #[.int .u8 b.toNat] 5)
  rw [hw2] at mid
  clear hw2 cv cd
  clear q0 q1 q2 q3 q4 q5
  have q0 := mid.at'.mode
  have q1 := mid.at'.tag
  have q2 := mid.at'.attr
  have q3 := mid.at'.inside
  have q4 := mid.at'.run
  have q5 := mid.at'.far
  have g0 := mid.slot.thaw 0
  have g1 := mid.slot.thaw 1
  have g2 := mid.slot.thaw 2
  have g3 := mid.slot.thaw 3
  have g4 := mid.slot.thaw 4
  have g5 := mid.slot.thaw 5
  rw [HP.out] at q0
  go_wp2_with fail
  refine (HIs.out _).mono ?_
  rintro e w3 ⟨rfl, hw3⟩
  have mid := mid.setInside ni
  rw [hw3] at mid
  clear hw3
  clear q0 q1 q2 q3 q4 q5 g0 g1 g2 g3 g4 g5
  have q0 := mid.at'.mode
  have q1 := mid.at'.tag
  have q2 := mid.at'.attr
  have q3 := mid.at'.inside
  have q4 := mid.at'.run
  have q5 := mid.at'.far
  rw [HP.out] at q0
  simp only at q1 q2 q3 q4 q5
  have mid := mid.alloc (.cells #[.int .u8 b.toNat] 5)
  have a0 := mid.at'.mode
  have a1 := mid.at'.tag
  have a2 := mid.at'.attr
  have a3 := mid.at'.inside
  have a4 := mid.at'.run
  have a5 := mid.at'.far
  rw [HP.out] at a0
  simp only at a1 a2 a3 a4 a5
  have g0 := mid.slot.thaw 0
  have g1 := mid.slot.thaw 1
  have g2 := mid.slot.thaw 2
  have g3 := mid.slot.thaw 3
  have g4 := mid.slot.thaw 4
  have g5 := mid.slot.thaw 5
  obtain ⟨v0, p0⟩ := mid.res.cell 0 (by omega)
  have f0 := mid.res.thaw 0
  obtain ⟨v1, p1⟩ := mid.res.cell 1 (by omega)
  have f1 := mid.res.thaw 1
  obtain ⟨v2, p2⟩ := mid.res.cell 2 (by omega)
  have f2 := mid.res.thaw 2
  obtain ⟨v3, p3⟩ := mid.res.cell 3 (by omega)
  have f3 := mid.res.thaw 3
  obtain ⟨v4, p4⟩ := mid.res.cell 4 (by omega)
  have f4 := mid.res.thaw 4
  obtain ⟨v5, p5⟩ := mid.res.cell 5 (by omega)
  have f5 := mid.res.thaw 5
  have cv := one_here b w3 w3.heap.size rfl
  have cd := one_drew b w3 w3.heap.size rfl
  go_wp2_with (go_at_call 82; refine (HE.out _).mono ?_; rintro e w' ⟨rfl, rfl⟩)
  refine bodyPost_set6 Tryd.results62 (w.heap.size + 1) _ Tryd.underlying64 rfl (by kernel_rfl) rfl (mid.res.put w.heap.size 4 _ (by omega)) rfl _ _ _ _ _ _ ?_
  exact ⟨rfl, below_set6 (mid.below.setCell (p := ⟨w.heap.size, 4, none⟩) (Nat.le_refl _) _) (by simp) _ _ _ _ _ _⟩

end Go.Proofs.YtfkhljmiehdgmaaDoor

/-
  The walks of the document's answer on pages: a byte is read.
-/
namespace Go.Proofs.YtfkhljmiehdgmaaDoor
open Go.RowKit

theorem spElement_any (p : Pl.Sp) (m : Nat) (b : UInt8) (w : World) (hpm : p.mode = m) (hm : m ≤ 33) (ht : p.tag.length ≤ 1000) (ha' : p.attr.length ≤ 1000) (hi : p.inside.length ≤ 1000) (hrl : p.run.length ≤ 10000000) :
    Calls Tryd.prog 62 #[spVal p, .int .u8 b.toNat] w fun e w' => e = .returned (spVal (p.element m b)) ∧ Below w.heap.size w w' := by
  unfold Pl.Sp.element
  by_cases hr : p.read = (Pl.spEnd p.tag).length
  · by_cases ha : Pl.among b Pl.endBytes = true
    · rw [if_pos ⟨hr, ha⟩]
      by_cases hb : b = 62
      · rw [if_pos hb]
        exact element_start p b w ht hi hr ha hb
      · rw [if_neg hb]
        exact element_endname p b w ht hi hr ha hb
    · rw [if_neg (fun q => ha q.2)]
      rw [Bool.not_eq_true] at ha
      by_cases hs : Pl.isStr m = true
      · by_cases he : Pl.escOf (Pl.sheetly m) p.run = 1
        · rw [if_pos ⟨hs, he⟩]
          exact element_escB p m b w hpm ht hi hrl hr ha hs he
        · rw [if_neg (fun q => he q.2), if_neg (fun q => by rw [q] at hs; revert hs; decide)]
          exact element_strB p m b w hpm hm ht ha' hi hrl hr ha hs he
      · rw [if_neg (fun q => hs q.1)]
        by_cases h19 : m = 19
        · rw [if_pos h19]
          exact element_softB p m b w hpm hm ht hi hrl hr ha h19
        · rw [if_neg h19]
          rw [Bool.not_eq_true] at hs
          exact element_othB p m b w hpm hm ht ha' hi hrl hr ha hs h19
  · rw [if_neg (fun q => hr q.1)]
    by_cases hs : Pl.isStr m = true
    · by_cases he : Pl.escOf (Pl.sheetly m) p.run = 1
      · rw [if_pos ⟨hs, he⟩]
        exact element_escA p m b w hpm ht hi hrl hr hs he
      · rw [if_neg (fun q => he q.2), if_neg (fun q => by rw [q] at hs; revert hs; decide)]
        exact element_strA p m b w hpm hm ht ha' hi hrl hr hs he
    · rw [if_neg (fun q => hs q.1)]
      by_cases h19 : m = 19
      · rw [if_pos h19]
        exact element_softA p m b w hpm hm ht hi hrl hr h19
      · rw [if_neg h19]
        rw [Bool.not_eq_true] at hs
        exact element_othA p m b w hpm hm ht ha' hi hrl hr hs h19

end Go.Proofs.YtfkhljmiehdgmaaDoor

/-
  The walk of the document's answer on pages: Next.
-/
namespace Go.Proofs.YtfkhljmiehdgmaaDoor
open Go.RowKit

set_option maxRecDepth 100000 in
set_option maxHeartbeats 1600000 in
theorem spNext_hi (p : Pl.Sp) (m : Nat) (b : UInt8) (w : World) (hpm : p.mode = m) (hm : m ≤ 33) (ht : p.tag.length ≤ 1000) (ha : p.attr.length ≤ 1000) (hi : p.inside.length ≤ 1000) (hrl : p.run.length ≤ 10000000) (h : 19 ≤ m) :
    Calls Tryd.prog 45 #[spVal p, .int .u8 b.toNat] w fun e w' => e = .returned (spVal (p.next b)) ∧ Below w.heap.size w w' := by
  have hn : p.next b = p.element m b := by unfold Pl.Sp.next; rw [hpm, Int.toNat_natCast, if_pos h]
  rw [hn]
  have hC := fun w => spElement_any p m b w hpm hm ht ha hi hrl
  generalize p.element m b = N at hC ⊢
  obtain ⟨nm, nt, na, ni, nr, nf⟩ := N
  unfold spVal spCells at hC ⊢
  simp only at hC ⊢
  rw [hpm] at hC ⊢
  have HC := (show Hid _ from hC)
  have HM := fun t t' cs hc => SpMid.start (w0 := w) p cs t t' hc
  unfold spCells at HM
  rw [hpm] at HM
  have hge : (19 : Int) ≤ (m : Int) := by omega
  clear hC hn hpm hm ht ha hi hrl h
  go_enter Tryd.func45, Tryd.ntmps45
  go_wp2_with fail
  refine (HC.out _).mono ?_
  rintro e w1 ⟨rfl, hb1⟩
  have mid := (HM _ _ _ rfl).kept hb1
  clear hb1
  obtain ⟨v0, p0⟩ := mid.res.cell 0 (by omega)
  have f0 := mid.res.thaw 0
  obtain ⟨v1, p1⟩ := mid.res.cell 1 (by omega)
  have f1 := mid.res.thaw 1
  obtain ⟨v2, p2⟩ := mid.res.cell 2 (by omega)
  have f2 := mid.res.thaw 2
  obtain ⟨v3, p3⟩ := mid.res.cell 3 (by omega)
  have f3 := mid.res.thaw 3
  obtain ⟨v4, p4⟩ := mid.res.cell 4 (by omega)
  have f4 := mid.res.thaw 4
  obtain ⟨v5, p5⟩ := mid.res.cell 5 (by omega)
  have f5 := mid.res.thaw 5
  go_wp2_with fail
  refine bodyPost_set6 Tryd.results45 (w.heap.size + 1) _ Tryd.underlying64 rfl (by kernel_rfl) rfl mid.res rfl _ _ _ _ _ _ ?_
  exact ⟨rfl, below_set6 mid.below (by simp) _ _ _ _ _ _⟩

set_option maxRecDepth 100000 in
set_option maxHeartbeats 1600000 in
theorem spNext_lo (p : Pl.Sp) (m : Nat) (b : UInt8) (w : World) (hpm : p.mode = m) (hm : m ≤ 33) (ht : p.tag.length ≤ 1000) (ha : p.attr.length ≤ 1000) (hrl : p.run.length ≤ 10000000) (h : ¬ 19 ≤ m) :
    Calls Tryd.prog 45 #[spVal p, .int .u8 b.toNat] w fun e w' => e = .returned (spVal (p.next b)) ∧ Below w.heap.size w w' := by
  have hn : p.next b = p.step m b := by unfold Pl.Sp.next; rw [hpm, Int.toNat_natCast, if_neg h]
  rw [hn]
  have hC := fun w => spStep_any p m b w hpm hm ht ha hrl
  generalize p.step m b = N at hC ⊢
  obtain ⟨nm, nt, na, ni, nr, nf⟩ := N
  unfold spVal spCells at hC ⊢
  simp only at hC ⊢
  rw [hpm] at hC ⊢
  have HC := (show Hid _ from hC)
  have HM := fun t t' cs hc => SpMid.start (w0 := w) p cs t t' hc
  unfold spCells at HM
  rw [hpm] at HM
  have hge : (m : Int) < 19 := by omega
  clear hC hn hpm hm ht ha hrl h
  go_enter Tryd.func45, Tryd.ntmps45
  go_wp2_with fail
  refine (HC.out _).mono ?_
  rintro e w1 ⟨rfl, hb1⟩
  have mid := (HM _ _ _ rfl).kept hb1
  clear hb1
  obtain ⟨v0, p0⟩ := mid.res.cell 0 (by omega)
  have f0 := mid.res.thaw 0
  obtain ⟨v1, p1⟩ := mid.res.cell 1 (by omega)
  have f1 := mid.res.thaw 1
  obtain ⟨v2, p2⟩ := mid.res.cell 2 (by omega)
  have f2 := mid.res.thaw 2
  obtain ⟨v3, p3⟩ := mid.res.cell 3 (by omega)
  have f3 := mid.res.thaw 3
  obtain ⟨v4, p4⟩ := mid.res.cell 4 (by omega)
  have f4 := mid.res.thaw 4
  obtain ⟨v5, p5⟩ := mid.res.cell 5 (by omega)
  have f5 := mid.res.thaw 5
  go_wp2_with fail
  refine bodyPost_set6 Tryd.results45 (w.heap.size + 1) _ Tryd.underlying64 rfl (by kernel_rfl) rfl mid.res rfl _ _ _ _ _ _ ?_
  exact ⟨rfl, below_set6 mid.below (by simp) _ _ _ _ _ _⟩

theorem spNext_any (p : Pl.Sp) (m : Nat) (b : UInt8) (w : World) (hpm : p.mode = m) (hm : m ≤ 33) (ht : p.tag.length ≤ 1000) (ha : p.attr.length ≤ 1000) (hi : p.inside.length ≤ 1000) (hrl : p.run.length ≤ 10000000) :
    Calls Tryd.prog 45 #[spVal p, .int .u8 b.toNat] w fun e w' => e = .returned (spVal (p.next b)) ∧ Below w.heap.size w w' := by
  by_cases h : 19 ≤ m
  · exact spNext_hi p m b w hpm hm ht ha hi hrl h
  · exact spNext_lo p m b w hpm hm ht ha hrl h

end Go.Proofs.YtfkhljmiehdgmaaDoor

/-
  The walk of the document's answer on pages: Modes.
-/
namespace Go.Proofs.YtfkhljmiehdgmaaDoor
open Go.RowKit

theorem Pl.spFrom_snoc (p : Pl.Sp) (l : List UInt8) (b : UInt8) : Pl.spFrom p (l ++ [b]) = (Pl.spFrom p l).next b := by simp [Pl.spFrom]
theorem Pl.spModes_snoc (l : List UInt8) : ∀ (p : Pl.Sp) (b : UInt8), Pl.spModes p (l ++ [b]) = Pl.spModes p l ++ [((Pl.spFrom p l).next b).mode] := by
  induction l with
  | nil => intro p b; rfl
  | cons x l ih => intro p b; show _ :: Pl.spModes _ (l ++ [b]) = _; rw [ih]; rfl
theorem Pl.spModes_len (l : List UInt8) : ∀ p : Pl.Sp, (Pl.spModes p l).length = l.length := by
  induction l with
  | nil => intro p; rfl
  | cons x l ih => intro p; show _ + 1 = _ + 1; rw [ih]
theorem Pl.spFrom_ok (l : List UInt8) : ∀ (p : Pl.Sp) (n : Nat), Pl.SpOk n p → Pl.SpOk (n + l.length) (Pl.spFrom p l) := by
  induction l with
  | nil => intro p n h; exact h
  | cons x l ih =>
    intro p n h
    have := ih _ _ (Pl.next_ok h x)
    rw [show n + (x :: l).length = n + 1 + l.length by simp; omega]
    exact this
def intVals (l : List Int) : List Value := l.map fun m => .int .i64 m
theorem intVals_len (l : List Int) : (intVals l).length = l.length := by simp [intVals]
theorem intVals_snoc (l : List Int) (m : Int) : intVals (l ++ [m]) = intVals l ++ [.int .i64 m] := by simp [intVals]
theorem spAt_set6 {w : World} {g : Nat} (h : Slot6 w g) (p : Pl.Sp) : SpAt (set6 w g (.int .i64 p.mode) (.string ⟨p.tag.toArray⟩) (.string ⟨p.attr.toArray⟩) (.string ⟨p.inside.toArray⟩) (.string ⟨p.run.toArray⟩) (.int .i64 p.far)) g p :=
  ⟨cells_set6 h _ _ _ _ _ _ 0 _ rfl, cells_set6 h _ _ _ _ _ _ 1 _ rfl, cells_set6 h _ _ _ _ _ _ 2 _ rfl, cells_set6 h _ _ _ _ _ _ 3 _ rfl, cells_set6 h _ _ _ _ _ _ 4 _ rfl, cells_set6 h _ _ _ _ _ _ 5 _ rfl⟩

/-- what holds ahead of each round -/
structure RefRound (w0 w : World) (G : Nat) (s : ByteArray) (k : Nat) (v : Value) : Prop where
  row : w.ownsRow (G + 1) 3 1 v k (intVals (Pl.spModes Pl.Sp.start (s.data.toList.take k)))
  at' : SpAt w G (Pl.spFrom Pl.Sp.start (s.data.toList.take k))
  slot : Slot6 w G
  below : Below w0.heap.size w0 w
  gt : w0.heap.size ≤ G

theorem own_far {w w' : World} {B n : Nat} {e : TypeId} {v : Value} {xs : List Value} (h : w.ownsRow B e 1 v n xs) (hh : ∀ g, B ≤ g → g < w.heap.size → w'.heap[g]? = w.heap[g]?) : w'.ownsRow B e 1 v n xs := by
  have hlt := h.lt
  refine ⟨h.1, ?_⟩
  rcases h.2 with hn | ⟨g', cap', cur, hv, hB, hg, rest⟩
  · exact .inl hn
  · exact .inr ⟨g', cap', cur, hv, hB, (hh g' hB (hlt g' (by rw [hv]; rfl)).2).trans hg, rest⟩
theorem RefRound.step {w0 w w2 : World} {G : Nat} {s : ByteArray} {k : Nat} {v : Value} (h : RefRound w0 w G s k v) (Y : Pl.Sp) (hb : Below w.heap.size w.drew w2) :
    Slot6 w2 G ∧
    SpAt (set6 w2 G (.int .i64 Y.mode) (.string ⟨Y.tag.toArray⟩) (.string ⟨Y.attr.toArray⟩) (.string ⟨Y.inside.toArray⟩) (.string ⟨Y.run.toArray⟩) (.int .i64 Y.far)) G Y ∧
    Slot6 (set6 w2 G (.int .i64 Y.mode) (.string ⟨Y.tag.toArray⟩) (.string ⟨Y.attr.toArray⟩) (.string ⟨Y.inside.toArray⟩) (.string ⟨Y.run.toArray⟩) (.int .i64 Y.far)) G ∧
    (set6 w2 G (.int .i64 Y.mode) (.string ⟨Y.tag.toArray⟩) (.string ⟨Y.attr.toArray⟩) (.string ⟨Y.inside.toArray⟩) (.string ⟨Y.run.toArray⟩) (.int .i64 Y.far)).ownsRow (G + 1) 3 1 v k (intVals (Pl.spModes Pl.Sp.start (s.data.toList.take k))) ∧
    Below w0.heap.size w0 (set6 w2 G (.int .i64 Y.mode) (.string ⟨Y.tag.toArray⟩) (.string ⟨Y.attr.toArray⟩) (.string ⟨Y.inside.toArray⟩) (.string ⟨Y.run.toArray⟩) (.int .i64 Y.far)) := by
  have hs2 : Slot6 w2 G := h.slot.drew.kept hb h.slot.lt
  have hB2 : Below w0.heap.size w0 w2 := h.below.drew.trans (hb.mono h.below.size)
  have hr2 : w2.ownsRow (G + 1) 3 1 v k _ := own_far h.row (fun g _ hg => hb.block g hg)
  refine ⟨hs2, spAt_set6 hs2 Y, slot6_set6 hs2 _ _ _ _ _ _, own_far hr2 (fun g hg _ => ?_), below_set6 hB2 h.gt _ _ _ _ _ _⟩
  unfold set6
  have ne : ∀ j, g ≠ (⟨G, j, none⟩ : Addr).block := fun j => by show g ≠ G; omega
  rw [Below.heap_setCell _ _ _ _ (ne 5), Below.heap_setCell _ _ _ _ (ne 4), Below.heap_setCell _ _ _ _ (ne 3), Below.heap_setCell _ _ _ _ (ne 2), Below.heap_setCell _ _ _ _ (ne 1), Below.heap_setCell _ _ _ _ (ne 0)]

set_option maxRecDepth 100000 in
set_option maxHeartbeats 3200000 in
theorem refModes (s : ByteArray) (w : World) (hs : s.size ≤ 2000000) :
    Calls Tryd.prog 26 #[.string s] w fun e w' => ∃ v, e = .returned v ∧ w'.ownsRow w.heap.size 3 1 v s.size (intVals (Pl.spModes Pl.Sp.start s.data.toList)) ∧ Below w.heap.size w w' := by
  obtain ⟨i0, hi, hz0, hz1, hz2⟩ := info_parts info_int
  have HS := (show Hid _ from fun w => spStart_any w)
  go_enter Tryd.func26, Tryd.ntmps26
  go_wp2_with fail
  refine (HS.out _).mono ?_
  rintro e w1 ⟨rfl, rfl⟩
  go_wp2_with fail
  have HR0 : Hid (RefRound w ((w.alloc (.cells (spCells Pl.Sp.start) 64)).alloc (.cells (spCells Pl.Sp.start) 64)) (w.heap.size + 1) s 0 (.slice none 0 0)) :=
    ⟨by simpa [Pl.spModes, intVals] using World.ownsRow_nil _ _ _ _, by have := spAt_alloc (w.alloc (.cells (spCells Pl.Sp.start) 64)) Pl.Sp.start 64; simpa [Pl.spFrom] using this, slot6_new _ _ _ _ (by simp) rfl, ((Below.refl _ _).alloc (Nat.le_refl _) _).alloc (by simp) _, by omega⟩
  unfold spCells Pl.Sp.start at HR0
  simp only at HR0
  go_loopw [3, 5] (fun v i wr => ∃ k : Nat, k ≤ s.size ∧ i = .int .i64 k ∧ Hid (RefRound w wr (w.heap.size + 1) s k v)) (fun _ i _ => s.size - (intOf i).toNat)
  case atStart => exact ⟨0, Nat.zero_le _, rfl, HR0⟩
  case round =>
    obtain ⟨k, hk, rfl, HR⟩ := hrel
    clear HR0
    by_cases hlt : k < s.size
    · have hok := Pl.spFrom_ok (s.data.toList.take k) _ 0 (Pl.spOk_start 0)
      have hlen : (s.data.toList.take k).length ≤ 2000000 := by rw [Pl.take_len s k hk]; omega
      obtain ⟨m, hm, h33⟩ := hok.mode
      have hN := fun w => spNext_any (Pl.spFrom Pl.Sp.start (s.data.toList.take k)) m s[k] w hm h33 (Nat.le_trans hok.tag (by omega)) (Nat.le_trans hok.attr (by omega)) (Nat.le_trans hok.inside (by omega)) (Nat.le_trans hok.run (by omega))
      have HST := fun (Y : Pl.Sp) (w2 : World) (hb : Below wr.heap.size wr.drew w2) => HR.out.step Y hb
      have hat := HR.out.at'
      have hsn : Pl.spFrom Pl.Sp.start (s.data.toList.take (k + 1)) = (Pl.spFrom Pl.Sp.start (s.data.toList.take k)).next s[k] := by rw [Pl.take_snoc s k hlt, Pl.spFrom_snoc]
      have hmn : Pl.spModes Pl.Sp.start (s.data.toList.take (k + 1)) = Pl.spModes Pl.Sp.start (s.data.toList.take k) ++ [((Pl.spFrom Pl.Sp.start (s.data.toList.take k)).next s[k]).mode] := by rw [Pl.take_snoc s k hlt, Pl.spModes_snoc]
      generalize (Pl.spFrom Pl.Sp.start (s.data.toList.take k)).next s[k] = Y at hN hsn hmn
      have HSY := (show Hid _ from HST Y)
      clear HST hok hm h33 hlen
      generalize Pl.spFrom Pl.Sp.start (s.data.toList.take k) = S at hN hat
      have q0 := hat.mode
      have q1 := hat.tag
      have q2 := hat.attr
      have q3 := hat.inside
      have q4 := hat.run
      have q5 := hat.far
      unfold spVal spCells at hN
      have HN := (show Hid _ from hN)
      have HSN := (show Hid _ from hsn)
      have HMN := (show Hid _ from hmn)
      clear hN hsn hmn
      go_wp2_with fail
      first | go_region_with (first
        | (go_at_call 45; refine (HN.out _).mono ?_; rintro e w2 ⟨rfl, hb2⟩
           obtain ⟨hs2, hVa, hVs, hrow, hbV⟩ := HSY.out w2 hb2
           unfold set6 at hVa hVs hrow hbV
           have HVa := (show Hid _ from hVa)
           have HVs := (show Hid _ from hVs)
           have HRow := (show Hid _ from hrow)
           have HBV := (show Hid _ from hbV)
           clear hVs hrow hbV
           obtain ⟨v0, p0⟩ := hs2.cell 0 (by omega)
           obtain ⟨v1, p1⟩ := hs2.cell 1 (by omega)
           obtain ⟨v2, p2⟩ := hs2.cell 2 (by omega)
           obtain ⟨v3, p3⟩ := hs2.cell 3 (by omega)
           obtain ⟨v4, p4⟩ := hs2.cell 4 (by omega)
           obtain ⟨v5, p5⟩ := hs2.cell 5 (by omega)
           have f0 := hs2.thaw 0
           have f1 := hs2.thaw 1
           have f2 := hs2.thaw 2
           have f3 := hs2.thaw 3
           have f4 := hs2.thaw 4
           have f5 := hs2.thaw 5)) | fail
      all_goals
        have r0 := hVa.mode
        clear q0 q1 q2 q3 q4 q5 hVa p0 p1 p2 p3 p4 p5 f0 f1 f2 f3 f4 f5 hs2 HSY hat
        generalize (((((w2.setCell _ _).setCell _ _).setCell _ _).setCell _ _).setCell _ _).setCell _ _ = V at HVa HVs HRow HBV r0 ⊢
        have hvl := Slot6.lt HVs.out
        go_wp2_with (at_builtin; refine wpList_append_own _ rfl _ _ 36 rfl (w.heap.size + 1 + 1) 3 i0 (.int .i64 0) 1 8 Tryd.underlying36 hi hz0 hz1 hz2 rfl (by decide) _ _ _ rfl (World.ownsRow.alloc HRow.out _) ⟨_, 0, none⟩ 1 1 [.int .i64 Y.mode] rfl rfl ?c1 ?c2 ?c3 ?c4 ?c5 ?_)
        case c1 =>
          intro j u hj
          match j, hj with
          | 0, hj => simp at hj; subst hj; simp [Addr.add]
        case c2 => intro u hu; simp at hu; subst hu; rfl
        case c3 => unfold maxLen; omega
        case c4 => omega
        case c5 => simp; omega
        · intro v' w3 hown' hgrow _
          have hown0 := World.ownsRow.alloc HRow.out (.cells #[.int .i64 Y.mode] 3)
          have hb1 := (HBV.out.alloc HBV.out.size (.cells #[.int .i64 Y.mode] 3)).grown hgrow (by simp; omega) (fun g hg => by have := (World.ownsRow.lt hown0 g hg).1; omega)
          have hb2 := (Below.refl (w.heap.size + 1 + 1) (V.alloc (.cells #[.int .i64 Y.mode] 3))).grown hgrow (by simp; omega) (fun g hg => (World.ownsRow.lt hown0 g hg).1)
          have hR : Hid (RefRound w w3 (w.heap.size + 1) s (k + 1) v') :=
            ⟨by rw [HMN.out, intVals_snoc]; exact hown', by rw [HSN.out]; exact (SpAt.alloc HVa.out hvl _).kept hb2 (by omega), (Slot6.alloc HVs.out _).kept hb2 (by omega), hb1, by omega⟩
          clear hown' hgrow hown0 hb1 hb2
          go_wp2
          go_roundw
          case rel => exact ⟨k + 1, by omega, by go_num, hR⟩
          case measure => simp [intOf]; omega
    · have hke : k = s.size := by omega
      have hrow := HR.out.row
      rw [Pl.take_all s k (by omega)] at hrow
      have hbl := HR.out.below
      have hge := HR.out.gt
      subst hke
      go_wp2
      go_ret
      exact ⟨_, rfl, World.ownsRow.mono hrow (by omega), hbl⟩

end Go.Proofs.YtfkhljmiehdgmaaDoor
