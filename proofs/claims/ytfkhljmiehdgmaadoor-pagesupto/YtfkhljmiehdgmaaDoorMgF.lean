/-
  Several texts laid together: each opens with its own remark.
-/
import Derived.Test.YtfkhljmiehdgmaaDoorMgE

/-
  The walks of the document's answer on pages: a byte is read by the table: a mode that stays and keeps what was read.
-/
namespace Go.Proofs.YtfkhljmiehdgmaaDoor
open Go.RowKit

theorem kept_app (m : Int) (l : List UInt8) (x : UInt8) (w : World) (hl : l.length ≤ 10000000) :
    Calls Tryd.prog 83 #[.int .i64 m, .string (ByteArray.mk l.toArray ++ ByteArray.mk #[x])] w fun e w' => e = .returned (.string ⟨(Pl.kept m (l ++ [x])).toArray⟩) ∧ w = w' := by
  have h := kept_any m (ByteArray.mk l.toArray ++ ByteArray.mk #[x]) w (by rw [ByteArray.size_append]; simp [ByteArray.size]; omega)
  rw [show (ByteArray.mk l.toArray ++ ByteArray.mk #[x]).data.toList = l ++ [x] by simp] at h
  exact h

set_option maxRecDepth 100000 in
set_option maxHeartbeats 3200000 in
theorem step_runs1 (p : Pl.Sp) (m : Nat) (b : UInt8) (w : World) (hpm : p.mode = m) (hm : m ≤ 33) (ht : p.tag.length ≤ 1000) (ha : p.attr.length ≤ 1000) (hT : Pl.tgt m b = m) (hrl : p.run.length ≤ 10000000) (hm1 : m = 1) :
    Calls Tryd.prog 63 #[spVal p, .int .u8 b.toNat] w fun e w' => e = .returned (spVal (p.step1 m b)) ∧ Below w.heap.size w w' := by
  have hrun : Pl.runs m = true := by subst hm1; decide
  have HV : Hid (p.step1 m b = ⟨Pl.tgt m b, (p.named m b (Pl.tgt m b)).tag, (p.named m b (Pl.tgt m b)).attr, (p.named m b (Pl.tgt m b)).inside, Pl.kept m (p.run ++ [b]), 0⟩) := by
    show _ = _
    unfold Pl.Sp.step1
    rw [if_neg (by omega), if_pos ⟨hT, by rw [hT]; exact hrun⟩, if_neg (by omega), hT]
  rw [HV.out]
  have hTg := fun w => target_any m b w hm
  have hN := fun w => spNamed_any p m b (Pl.tgt m b) w hpm ht ha
  have hNr : (p.named m b (Pl.tgt m b)).run = [] ∧ (p.named m b (Pl.tgt m b)).far = 0 ∧ (p.named m b (Pl.tgt m b)).mode = 0 := by
    unfold Pl.Sp.named
    repeat' split
    all_goals exact ⟨rfl, rfl, rfl⟩
  rw [hT] at hTg hN hNr HV ⊢
  generalize p.named m b m = N at hN hNr HV ⊢
  obtain ⟨nm, nt, na, ni, nr, nf⟩ := N
  obtain ⟨rfl, rfl, rfl⟩ := hNr
  have hK := fun w => kept_app m p.run b w hrl
  have hF := fun w => spFarther_any p.far b w
  clear hrun
  subst hm1
  generalize Pl.kept _ (p.run ++ [b]) = kr at hK HV ⊢
  have HK := (show Hid _ from hK)
  have HF := (show Hid _ from hF)
  clear hK hF
  unfold spVal spCells at hN ⊢
  simp only at hN ⊢
  rw [hpm] at hN ⊢
  have HT := (show Hid _ from hTg)
  have HN := (show Hid _ from hN)
  have HM := fun t t' cs hc => SpMid.start (w0 := w) p cs t t' hc
  unfold spCells at HM
  rw [hpm] at HM
  have HP : Hid (p.mode = ((1 : Nat) : Int)) := hpm
  have hzr : (ByteArray.mk p.run.toArray).size = p.run.length := by simp [ByteArray.size]
  have hrb := hrl
  have tq : (((1 : Nat) : Int) == p.mode) = true := by rw [HP.out]; rfl
  have tq' : ((1 : Int) == p.mode) = true := by rw [HP.out]; rfl
  clear hTg hN hT hpm HV hrl
  go_enter Tryd.func63, Tryd.ntmps63
  go_wp2_with fail
  refine (HT.out _).mono ?_
  rintro e w1 ⟨rfl, hb1⟩
  have mid := (HM _ _ _ rfl).kept hb1
  clear hb1
  have q0 := mid.at'.mode
  have q1 := mid.at'.tag
  have q2 := mid.at'.attr
  have q3 := mid.at'.inside
  have q4 := mid.at'.run
  have q5 := mid.at'.far
  rw [HP.out] at q0
  go_wp2_with fail
  refine (HN.out _).mono ?_
  rintro e w2 ⟨rfl, hb2⟩
  have mid := mid.kept hb2
  clear hb2 q0 q1 q2 q3 q4 q5
  have a0 := fun o => (mid.alloc o).at'.mode
  have a1 := fun o => (mid.alloc o).at'.tag
  have a2 := fun o => (mid.alloc o).at'.attr
  have a3 := fun o => (mid.alloc o).at'.inside
  have a4 := fun o => (mid.alloc o).at'.run
  have a5 := fun o => (mid.alloc o).at'.far
  simp only [HP.out] at a0
  have hw := fun o => (mid.alloc o).below
  have hsl := fun o => (mid.alloc o).res
  obtain ⟨v0, p0⟩ := mid.res.cell 0 (by omega)
  obtain ⟨v1, p1⟩ := mid.res.cell 1 (by omega)
  obtain ⟨v2, p2⟩ := mid.res.cell 2 (by omega)
  obtain ⟨v3, p3⟩ := mid.res.cell 3 (by omega)
  obtain ⟨v4, p4⟩ := mid.res.cell 4 (by omega)
  obtain ⟨v5, p5⟩ := mid.res.cell 5 (by omega)
  have rlt := mid.res.lt
  have r0 := fun o => (heap_cell_old w2 o ⟨w.heap.size + 1, 0, none⟩ rlt).trans p0
  have r1 := fun o => (heap_cell_old w2 o ⟨w.heap.size + 1, 1, none⟩ rlt).trans p1
  have r2 := fun o => (heap_cell_old w2 o ⟨w.heap.size + 1, 2, none⟩ rlt).trans p2
  have r3 := fun o => (heap_cell_old w2 o ⟨w.heap.size + 1, 3, none⟩ rlt).trans p3
  have r4 := fun o => (heap_cell_old w2 o ⟨w.heap.size + 1, 4, none⟩ rlt).trans p4
  have r5 := fun o => (heap_cell_old w2 o ⟨w.heap.size + 1, 5, none⟩ rlt).trans p5
  have f0 := fun o => (mid.alloc o).res.thaw 0
  have f1 := fun o => (mid.alloc o).res.thaw 1
  have f2 := fun o => (mid.alloc o).res.thaw 2
  have f3 := fun o => (mid.alloc o).res.thaw 3
  have f4 := fun o => (mid.alloc o).res.thaw 4
  have f5 := fun o => (mid.alloc o).res.thaw 5
  have g0 := mid.res.thaw 0
  have g1 := mid.res.thaw 1
  have g2 := mid.res.thaw 2
  have g3 := mid.res.thaw 3
  have g4 := mid.res.thaw 4
  have g5 := mid.res.thaw 5
  have hw2 := mid.below
  have hsl2 := mid.res
  have s0 := fun o o2 => (heap_cell_old (w2.alloc o) o2 ⟨w.heap.size + 1, 0, none⟩ (by simp; omega)).trans ((heap_cell_old w2 o ⟨w.heap.size + 1, 0, none⟩ rlt).trans p0)
  have b0 := fun o o2 => ((mid.alloc o).alloc o2).at'.mode
  have h0 := fun o o2 => ((mid.alloc o).alloc o2).res.thaw 0
  have s1 := fun o o2 => (heap_cell_old (w2.alloc o) o2 ⟨w.heap.size + 1, 1, none⟩ (by simp; omega)).trans ((heap_cell_old w2 o ⟨w.heap.size + 1, 1, none⟩ rlt).trans p1)
  have b1 := fun o o2 => ((mid.alloc o).alloc o2).at'.tag
  have h1 := fun o o2 => ((mid.alloc o).alloc o2).res.thaw 1
  have s2 := fun o o2 => (heap_cell_old (w2.alloc o) o2 ⟨w.heap.size + 1, 2, none⟩ (by simp; omega)).trans ((heap_cell_old w2 o ⟨w.heap.size + 1, 2, none⟩ rlt).trans p2)
  have b2 := fun o o2 => ((mid.alloc o).alloc o2).at'.attr
  have h2 := fun o o2 => ((mid.alloc o).alloc o2).res.thaw 2
  have s3 := fun o o2 => (heap_cell_old (w2.alloc o) o2 ⟨w.heap.size + 1, 3, none⟩ (by simp; omega)).trans ((heap_cell_old w2 o ⟨w.heap.size + 1, 3, none⟩ rlt).trans p3)
  have b3 := fun o o2 => ((mid.alloc o).alloc o2).at'.inside
  have h3 := fun o o2 => ((mid.alloc o).alloc o2).res.thaw 3
  have s4 := fun o o2 => (heap_cell_old (w2.alloc o) o2 ⟨w.heap.size + 1, 4, none⟩ (by simp; omega)).trans ((heap_cell_old w2 o ⟨w.heap.size + 1, 4, none⟩ rlt).trans p4)
  have b4 := fun o o2 => ((mid.alloc o).alloc o2).at'.run
  have h4 := fun o o2 => ((mid.alloc o).alloc o2).res.thaw 4
  have s5 := fun o o2 => (heap_cell_old (w2.alloc o) o2 ⟨w.heap.size + 1, 5, none⟩ (by simp; omega)).trans ((heap_cell_old w2 o ⟨w.heap.size + 1, 5, none⟩ rlt).trans p5)
  have b5 := fun o o2 => ((mid.alloc o).alloc o2).at'.far
  have h5 := fun o o2 => ((mid.alloc o).alloc o2).res.thaw 5
  have cv := fun o => one_here b (w2.alloc o) (w2.heap.size + 1) (by simp)
  have cd := fun o => one_drew b (w2.alloc o) (w2.heap.size + 1) (by simp)
  clear HT HN HM hw hsl
  go_wp2_with fail
  refine (HK.out _).mono ?_
  rintro e w4 ⟨rfl, rfl⟩
  go_wp2_with fail
  refine bodyPost_set6 Tryd.results63 (w.heap.size + 1) _ Tryd.underlying64 rfl (by kernel_rfl) rfl (((mid.alloc _).alloc _).res) rfl _ _ _ _ _ _ ?_
  exact ⟨rfl, below_set6 ((mid.alloc _).alloc _).below (by simp) _ _ _ _ _ _⟩

set_option maxRecDepth 100000 in
set_option maxHeartbeats 3200000 in
theorem step_runs8 (p : Pl.Sp) (m : Nat) (b : UInt8) (w : World) (hpm : p.mode = m) (hm : m ≤ 33) (ht : p.tag.length ≤ 1000) (ha : p.attr.length ≤ 1000) (hT : Pl.tgt m b = m) (hrl : p.run.length ≤ 10000000) (hm1 : m = 8) :
    Calls Tryd.prog 63 #[spVal p, .int .u8 b.toNat] w fun e w' => e = .returned (spVal (p.step1 m b)) ∧ Below w.heap.size w w' := by
  have hrun : Pl.runs m = true := by subst hm1; decide
  have HV : Hid (p.step1 m b = ⟨Pl.tgt m b, (p.named m b (Pl.tgt m b)).tag, (p.named m b (Pl.tgt m b)).attr, (p.named m b (Pl.tgt m b)).inside, Pl.kept m (p.run ++ [b]), Pl.farther p.far b⟩) := by
    show _ = _
    unfold Pl.Sp.step1
    rw [if_neg (by omega), if_pos ⟨hT, by rw [hT]; exact hrun⟩, if_pos (by omega), if_pos hT, hT]
  rw [HV.out]
  have hTg := fun w => target_any m b w hm
  have hN := fun w => spNamed_any p m b (Pl.tgt m b) w hpm ht ha
  have hNr : (p.named m b (Pl.tgt m b)).run = [] ∧ (p.named m b (Pl.tgt m b)).far = 0 ∧ (p.named m b (Pl.tgt m b)).mode = 0 := by
    unfold Pl.Sp.named
    repeat' split
    all_goals exact ⟨rfl, rfl, rfl⟩
  rw [hT] at hTg hN hNr HV ⊢
  generalize p.named m b m = N at hN hNr HV ⊢
  obtain ⟨nm, nt, na, ni, nr, nf⟩ := N
  obtain ⟨rfl, rfl, rfl⟩ := hNr
  have hK := fun w => kept_app m p.run b w hrl
  have hF := fun w => spFarther_any p.far b w
  clear hrun
  subst hm1
  generalize Pl.kept _ (p.run ++ [b]) = kr at hK HV ⊢
  generalize Pl.farther p.far b = ff at hF HV ⊢
  have HK := (show Hid _ from hK)
  have HF := (show Hid _ from hF)
  clear hK hF
  unfold spVal spCells at hN ⊢
  simp only at hN ⊢
  rw [hpm] at hN ⊢
  have HT := (show Hid _ from hTg)
  have HN := (show Hid _ from hN)
  have HM := fun t t' cs hc => SpMid.start (w0 := w) p cs t t' hc
  unfold spCells at HM
  rw [hpm] at HM
  have HP : Hid (p.mode = ((8 : Nat) : Int)) := hpm
  have hzr : (ByteArray.mk p.run.toArray).size = p.run.length := by simp [ByteArray.size]
  have hrb := hrl
  have tq : (((8 : Nat) : Int) == p.mode) = true := by rw [HP.out]; rfl
  have tq' : ((8 : Int) == p.mode) = true := by rw [HP.out]; rfl
  clear hTg hN hT hpm HV hrl
  go_enter Tryd.func63, Tryd.ntmps63
  go_wp2_with fail
  refine (HT.out _).mono ?_
  rintro e w1 ⟨rfl, hb1⟩
  have mid := (HM _ _ _ rfl).kept hb1
  clear hb1
  have q0 := mid.at'.mode
  have q1 := mid.at'.tag
  have q2 := mid.at'.attr
  have q3 := mid.at'.inside
  have q4 := mid.at'.run
  have q5 := mid.at'.far
  rw [HP.out] at q0
  go_wp2_with fail
  refine (HN.out _).mono ?_
  rintro e w2 ⟨rfl, hb2⟩
  have mid := mid.kept hb2
  clear hb2 q0 q1 q2 q3 q4 q5
  have a0 := fun o => (mid.alloc o).at'.mode
  have a1 := fun o => (mid.alloc o).at'.tag
  have a2 := fun o => (mid.alloc o).at'.attr
  have a3 := fun o => (mid.alloc o).at'.inside
  have a4 := fun o => (mid.alloc o).at'.run
  have a5 := fun o => (mid.alloc o).at'.far
  simp only [HP.out] at a0
  have hw := fun o => (mid.alloc o).below
  have hsl := fun o => (mid.alloc o).res
  obtain ⟨v0, p0⟩ := mid.res.cell 0 (by omega)
  obtain ⟨v1, p1⟩ := mid.res.cell 1 (by omega)
  obtain ⟨v2, p2⟩ := mid.res.cell 2 (by omega)
  obtain ⟨v3, p3⟩ := mid.res.cell 3 (by omega)
  obtain ⟨v4, p4⟩ := mid.res.cell 4 (by omega)
  obtain ⟨v5, p5⟩ := mid.res.cell 5 (by omega)
  have rlt := mid.res.lt
  have r0 := fun o => (heap_cell_old w2 o ⟨w.heap.size + 1, 0, none⟩ rlt).trans p0
  have r1 := fun o => (heap_cell_old w2 o ⟨w.heap.size + 1, 1, none⟩ rlt).trans p1
  have r2 := fun o => (heap_cell_old w2 o ⟨w.heap.size + 1, 2, none⟩ rlt).trans p2
  have r3 := fun o => (heap_cell_old w2 o ⟨w.heap.size + 1, 3, none⟩ rlt).trans p3
  have r4 := fun o => (heap_cell_old w2 o ⟨w.heap.size + 1, 4, none⟩ rlt).trans p4
  have r5 := fun o => (heap_cell_old w2 o ⟨w.heap.size + 1, 5, none⟩ rlt).trans p5
  have f0 := fun o => (mid.alloc o).res.thaw 0
  have f1 := fun o => (mid.alloc o).res.thaw 1
  have f2 := fun o => (mid.alloc o).res.thaw 2
  have f3 := fun o => (mid.alloc o).res.thaw 3
  have f4 := fun o => (mid.alloc o).res.thaw 4
  have f5 := fun o => (mid.alloc o).res.thaw 5
  have g0 := mid.res.thaw 0
  have g1 := mid.res.thaw 1
  have g2 := mid.res.thaw 2
  have g3 := mid.res.thaw 3
  have g4 := mid.res.thaw 4
  have g5 := mid.res.thaw 5
  have hw2 := mid.below
  have hsl2 := mid.res
  have s0 := fun o o2 => (heap_cell_old (w2.alloc o) o2 ⟨w.heap.size + 1, 0, none⟩ (by simp; omega)).trans ((heap_cell_old w2 o ⟨w.heap.size + 1, 0, none⟩ rlt).trans p0)
  have b0 := fun o o2 => ((mid.alloc o).alloc o2).at'.mode
  have h0 := fun o o2 => ((mid.alloc o).alloc o2).res.thaw 0
  have s1 := fun o o2 => (heap_cell_old (w2.alloc o) o2 ⟨w.heap.size + 1, 1, none⟩ (by simp; omega)).trans ((heap_cell_old w2 o ⟨w.heap.size + 1, 1, none⟩ rlt).trans p1)
  have b1 := fun o o2 => ((mid.alloc o).alloc o2).at'.tag
  have h1 := fun o o2 => ((mid.alloc o).alloc o2).res.thaw 1
  have s2 := fun o o2 => (heap_cell_old (w2.alloc o) o2 ⟨w.heap.size + 1, 2, none⟩ (by simp; omega)).trans ((heap_cell_old w2 o ⟨w.heap.size + 1, 2, none⟩ rlt).trans p2)
  have b2 := fun o o2 => ((mid.alloc o).alloc o2).at'.attr
  have h2 := fun o o2 => ((mid.alloc o).alloc o2).res.thaw 2
  have s3 := fun o o2 => (heap_cell_old (w2.alloc o) o2 ⟨w.heap.size + 1, 3, none⟩ (by simp; omega)).trans ((heap_cell_old w2 o ⟨w.heap.size + 1, 3, none⟩ rlt).trans p3)
  have b3 := fun o o2 => ((mid.alloc o).alloc o2).at'.inside
  have h3 := fun o o2 => ((mid.alloc o).alloc o2).res.thaw 3
  have s4 := fun o o2 => (heap_cell_old (w2.alloc o) o2 ⟨w.heap.size + 1, 4, none⟩ (by simp; omega)).trans ((heap_cell_old w2 o ⟨w.heap.size + 1, 4, none⟩ rlt).trans p4)
  have b4 := fun o o2 => ((mid.alloc o).alloc o2).at'.run
  have h4 := fun o o2 => ((mid.alloc o).alloc o2).res.thaw 4
  have s5 := fun o o2 => (heap_cell_old (w2.alloc o) o2 ⟨w.heap.size + 1, 5, none⟩ (by simp; omega)).trans ((heap_cell_old w2 o ⟨w.heap.size + 1, 5, none⟩ rlt).trans p5)
  have b5 := fun o o2 => ((mid.alloc o).alloc o2).at'.far
  have h5 := fun o o2 => ((mid.alloc o).alloc o2).res.thaw 5
  have cv := fun o => one_here b (w2.alloc o) (w2.heap.size + 1) (by simp)
  have cd := fun o => one_drew b (w2.alloc o) (w2.heap.size + 1) (by simp)
  clear HT HN HM hw hsl
  go_wp2_with fail
  refine (HK.out _).mono ?_
  rintro e w4 ⟨rfl, rfl⟩
  go_wp2_with fail
  refine (HF.out _).mono ?_
  rintro e w4 ⟨rfl, rfl⟩
  go_wp2_with fail
  refine bodyPost_set6 Tryd.results63 (w.heap.size + 1) _ Tryd.underlying64 rfl (by kernel_rfl) rfl (((mid.alloc _).alloc _).res) rfl _ _ _ _ _ _ ?_
  exact ⟨rfl, below_set6 ((mid.alloc _).alloc _).below (by simp) _ _ _ _ _ _⟩

set_option maxRecDepth 100000 in
set_option maxHeartbeats 3200000 in
theorem step_runs9 (p : Pl.Sp) (m : Nat) (b : UInt8) (w : World) (hpm : p.mode = m) (hm : m ≤ 33) (ht : p.tag.length ≤ 1000) (ha : p.attr.length ≤ 1000) (hT : Pl.tgt m b = m) (hrl : p.run.length ≤ 10000000) (hm1 : m = 9) :
    Calls Tryd.prog 63 #[spVal p, .int .u8 b.toNat] w fun e w' => e = .returned (spVal (p.step1 m b)) ∧ Below w.heap.size w w' := by
  have hrun : Pl.runs m = true := by subst hm1; decide
  have HV : Hid (p.step1 m b = ⟨Pl.tgt m b, (p.named m b (Pl.tgt m b)).tag, (p.named m b (Pl.tgt m b)).attr, (p.named m b (Pl.tgt m b)).inside, Pl.kept m (p.run ++ [b]), Pl.farther p.far b⟩) := by
    show _ = _
    unfold Pl.Sp.step1
    rw [if_neg (by omega), if_pos ⟨hT, by rw [hT]; exact hrun⟩, if_pos (by omega), if_pos hT, hT]
  rw [HV.out]
  have hTg := fun w => target_any m b w hm
  have hN := fun w => spNamed_any p m b (Pl.tgt m b) w hpm ht ha
  have hNr : (p.named m b (Pl.tgt m b)).run = [] ∧ (p.named m b (Pl.tgt m b)).far = 0 ∧ (p.named m b (Pl.tgt m b)).mode = 0 := by
    unfold Pl.Sp.named
    repeat' split
    all_goals exact ⟨rfl, rfl, rfl⟩
  rw [hT] at hTg hN hNr HV ⊢
  generalize p.named m b m = N at hN hNr HV ⊢
  obtain ⟨nm, nt, na, ni, nr, nf⟩ := N
  obtain ⟨rfl, rfl, rfl⟩ := hNr
  have hK := fun w => kept_app m p.run b w hrl
  have hF := fun w => spFarther_any p.far b w
  clear hrun
  subst hm1
  generalize Pl.kept _ (p.run ++ [b]) = kr at hK HV ⊢
  generalize Pl.farther p.far b = ff at hF HV ⊢
  have HK := (show Hid _ from hK)
  have HF := (show Hid _ from hF)
  clear hK hF
  unfold spVal spCells at hN ⊢
  simp only at hN ⊢
  rw [hpm] at hN ⊢
  have HT := (show Hid _ from hTg)
  have HN := (show Hid _ from hN)
  have HM := fun t t' cs hc => SpMid.start (w0 := w) p cs t t' hc
  unfold spCells at HM
  rw [hpm] at HM
  have HP : Hid (p.mode = ((9 : Nat) : Int)) := hpm
  have hzr : (ByteArray.mk p.run.toArray).size = p.run.length := by simp [ByteArray.size]
  have hrb := hrl
  have tq : (((9 : Nat) : Int) == p.mode) = true := by rw [HP.out]; rfl
  have tq' : ((9 : Int) == p.mode) = true := by rw [HP.out]; rfl
  clear hTg hN hT hpm HV hrl
  go_enter Tryd.func63, Tryd.ntmps63
  go_wp2_with fail
  refine (HT.out _).mono ?_
  rintro e w1 ⟨rfl, hb1⟩
  have mid := (HM _ _ _ rfl).kept hb1
  clear hb1
  have q0 := mid.at'.mode
  have q1 := mid.at'.tag
  have q2 := mid.at'.attr
  have q3 := mid.at'.inside
  have q4 := mid.at'.run
  have q5 := mid.at'.far
  rw [HP.out] at q0
  go_wp2_with fail
  refine (HN.out _).mono ?_
  rintro e w2 ⟨rfl, hb2⟩
  have mid := mid.kept hb2
  clear hb2 q0 q1 q2 q3 q4 q5
  have a0 := fun o => (mid.alloc o).at'.mode
  have a1 := fun o => (mid.alloc o).at'.tag
  have a2 := fun o => (mid.alloc o).at'.attr
  have a3 := fun o => (mid.alloc o).at'.inside
  have a4 := fun o => (mid.alloc o).at'.run
  have a5 := fun o => (mid.alloc o).at'.far
  simp only [HP.out] at a0
  have hw := fun o => (mid.alloc o).below
  have hsl := fun o => (mid.alloc o).res
  obtain ⟨v0, p0⟩ := mid.res.cell 0 (by omega)
  obtain ⟨v1, p1⟩ := mid.res.cell 1 (by omega)
  obtain ⟨v2, p2⟩ := mid.res.cell 2 (by omega)
  obtain ⟨v3, p3⟩ := mid.res.cell 3 (by omega)
  obtain ⟨v4, p4⟩ := mid.res.cell 4 (by omega)
  obtain ⟨v5, p5⟩ := mid.res.cell 5 (by omega)
  have rlt := mid.res.lt
  have r0 := fun o => (heap_cell_old w2 o ⟨w.heap.size + 1, 0, none⟩ rlt).trans p0
  have r1 := fun o => (heap_cell_old w2 o ⟨w.heap.size + 1, 1, none⟩ rlt).trans p1
  have r2 := fun o => (heap_cell_old w2 o ⟨w.heap.size + 1, 2, none⟩ rlt).trans p2
  have r3 := fun o => (heap_cell_old w2 o ⟨w.heap.size + 1, 3, none⟩ rlt).trans p3
  have r4 := fun o => (heap_cell_old w2 o ⟨w.heap.size + 1, 4, none⟩ rlt).trans p4
  have r5 := fun o => (heap_cell_old w2 o ⟨w.heap.size + 1, 5, none⟩ rlt).trans p5
  have f0 := fun o => (mid.alloc o).res.thaw 0
  have f1 := fun o => (mid.alloc o).res.thaw 1
  have f2 := fun o => (mid.alloc o).res.thaw 2
  have f3 := fun o => (mid.alloc o).res.thaw 3
  have f4 := fun o => (mid.alloc o).res.thaw 4
  have f5 := fun o => (mid.alloc o).res.thaw 5
  have g0 := mid.res.thaw 0
  have g1 := mid.res.thaw 1
  have g2 := mid.res.thaw 2
  have g3 := mid.res.thaw 3
  have g4 := mid.res.thaw 4
  have g5 := mid.res.thaw 5
  have hw2 := mid.below
  have hsl2 := mid.res
  have s0 := fun o o2 => (heap_cell_old (w2.alloc o) o2 ⟨w.heap.size + 1, 0, none⟩ (by simp; omega)).trans ((heap_cell_old w2 o ⟨w.heap.size + 1, 0, none⟩ rlt).trans p0)
  have b0 := fun o o2 => ((mid.alloc o).alloc o2).at'.mode
  have h0 := fun o o2 => ((mid.alloc o).alloc o2).res.thaw 0
  have s1 := fun o o2 => (heap_cell_old (w2.alloc o) o2 ⟨w.heap.size + 1, 1, none⟩ (by simp; omega)).trans ((heap_cell_old w2 o ⟨w.heap.size + 1, 1, none⟩ rlt).trans p1)
  have b1 := fun o o2 => ((mid.alloc o).alloc o2).at'.tag
  have h1 := fun o o2 => ((mid.alloc o).alloc o2).res.thaw 1
  have s2 := fun o o2 => (heap_cell_old (w2.alloc o) o2 ⟨w.heap.size + 1, 2, none⟩ (by simp; omega)).trans ((heap_cell_old w2 o ⟨w.heap.size + 1, 2, none⟩ rlt).trans p2)
  have b2 := fun o o2 => ((mid.alloc o).alloc o2).at'.attr
  have h2 := fun o o2 => ((mid.alloc o).alloc o2).res.thaw 2
  have s3 := fun o o2 => (heap_cell_old (w2.alloc o) o2 ⟨w.heap.size + 1, 3, none⟩ (by simp; omega)).trans ((heap_cell_old w2 o ⟨w.heap.size + 1, 3, none⟩ rlt).trans p3)
  have b3 := fun o o2 => ((mid.alloc o).alloc o2).at'.inside
  have h3 := fun o o2 => ((mid.alloc o).alloc o2).res.thaw 3
  have s4 := fun o o2 => (heap_cell_old (w2.alloc o) o2 ⟨w.heap.size + 1, 4, none⟩ (by simp; omega)).trans ((heap_cell_old w2 o ⟨w.heap.size + 1, 4, none⟩ rlt).trans p4)
  have b4 := fun o o2 => ((mid.alloc o).alloc o2).at'.run
  have h4 := fun o o2 => ((mid.alloc o).alloc o2).res.thaw 4
  have s5 := fun o o2 => (heap_cell_old (w2.alloc o) o2 ⟨w.heap.size + 1, 5, none⟩ (by simp; omega)).trans ((heap_cell_old w2 o ⟨w.heap.size + 1, 5, none⟩ rlt).trans p5)
  have b5 := fun o o2 => ((mid.alloc o).alloc o2).at'.far
  have h5 := fun o o2 => ((mid.alloc o).alloc o2).res.thaw 5
  have cv := fun o => one_here b (w2.alloc o) (w2.heap.size + 1) (by simp)
  have cd := fun o => one_drew b (w2.alloc o) (w2.heap.size + 1) (by simp)
  clear HT HN HM hw hsl
  go_wp2_with fail
  refine (HK.out _).mono ?_
  rintro e w4 ⟨rfl, rfl⟩
  go_wp2_with fail
  refine (HF.out _).mono ?_
  rintro e w4 ⟨rfl, rfl⟩
  go_wp2_with fail
  refine bodyPost_set6 Tryd.results63 (w.heap.size + 1) _ Tryd.underlying64 rfl (by kernel_rfl) rfl (((mid.alloc _).alloc _).res) rfl _ _ _ _ _ _ ?_
  exact ⟨rfl, below_set6 ((mid.alloc _).alloc _).below (by simp) _ _ _ _ _ _⟩

set_option maxRecDepth 100000 in
set_option maxHeartbeats 3200000 in
theorem step_runsS (p : Pl.Sp) (m : Nat) (b : UInt8) (w : World) (hpm : p.mode = m) (hm : m ≤ 33) (ht : p.tag.length ≤ 1000) (ha : p.attr.length ≤ 1000) (hT : Pl.tgt m b = m) (hrl : p.run.length ≤ 10000000) (hrs : Pl.isStr m = true) :
    Calls Tryd.prog 63 #[spVal p, .int .u8 b.toNat] w fun e w' => e = .returned (spVal (p.step1 m b)) ∧ Below w.heap.size w w' := by
  have hrun : Pl.runs m = true := by unfold Pl.runs; rw [hrs]; simp
  have hr8 : ¬ ((m : Int) = 8 ∨ (m : Int) = 9) := by
    rintro (q | q) <;> (rw [q] at hrs; revert hrs; decide)
  have hr1 : ¬ (m : Int) = 1 := by
    intro q; rw [q] at hrs; revert hrs; decide
  have HV : Hid (p.step1 m b = ⟨Pl.tgt m b, (p.named m b (Pl.tgt m b)).tag, (p.named m b (Pl.tgt m b)).attr, (p.named m b (Pl.tgt m b)).inside, Pl.kept m (p.run ++ [b]), 0⟩) := by
    show _ = _
    unfold Pl.Sp.step1
    rw [if_neg (by omega), if_pos ⟨hT, by rw [hT]; exact hrun⟩, if_neg (by omega), hT]
  rw [HV.out]
  have hTg := fun w => target_any m b w hm
  have hN := fun w => spNamed_any p m b (Pl.tgt m b) w hpm ht ha
  have hNr : (p.named m b (Pl.tgt m b)).run = [] ∧ (p.named m b (Pl.tgt m b)).far = 0 ∧ (p.named m b (Pl.tgt m b)).mode = 0 := by
    unfold Pl.Sp.named
    repeat' split
    all_goals exact ⟨rfl, rfl, rfl⟩
  rw [hT] at hTg hN hNr HV ⊢
  generalize p.named m b m = N at hN hNr HV ⊢
  obtain ⟨nm, nt, na, ni, nr, nf⟩ := N
  obtain ⟨rfl, rfl, rfl⟩ := hNr
  have t1 : ((m : Int) == -1) = false := by rw [beq_eq_false_iff_ne]; omega
  have t2 : ((m : Int) == -2) = false := by rw [beq_eq_false_iff_ne]; omega
  have t4 : ((m : Int) == 1) = false := by rw [beq_eq_false_iff_ne]; exact hr1
  have t8 : ((m : Int) == 8) = false := by rw [beq_eq_false_iff_ne]; exact fun q => hr8 (.inl q)
  have t9 : ((m : Int) == 9) = false := by rw [beq_eq_false_iff_ne]; exact fun q => hr8 (.inr q)
  have hIs := fun w => isString_any m w
  rw [hrs] at hIs
  have HIs := (show Hid _ from hIs)
  have hK := fun w => kept_app m p.run b w hrl
  generalize Pl.kept _ (p.run ++ [b]) = kr at hK HV ⊢
  have HK := (show Hid _ from hK)
  clear hIs hrs hr1 hr8 hK hrun
  unfold spVal spCells at hN ⊢
  simp only at hN ⊢
  rw [hpm] at hN ⊢
  have HT := (show Hid _ from hTg)
  have HN := (show Hid _ from hN)
  have HM := fun t t' cs hc => SpMid.start (w0 := w) p cs t t' hc
  unfold spCells at HM
  rw [hpm] at HM
  have HP : Hid (p.mode = m) := hpm
  have hzr : (ByteArray.mk p.run.toArray).size = p.run.length := by simp [ByteArray.size]
  have hrb := hrl
  clear hTg hN hT hpm HV hrl
  go_enter Tryd.func63, Tryd.ntmps63
  go_wp2_with fail
  refine (HT.out _).mono ?_
  rintro e w1 ⟨rfl, hb1⟩
  have mid := (HM _ _ _ rfl).kept hb1
  clear hb1
  have q0 := mid.at'.mode
  have q1 := mid.at'.tag
  have q2 := mid.at'.attr
  have q3 := mid.at'.inside
  have q4 := mid.at'.run
  have q5 := mid.at'.far
  rw [HP.out] at q0
  go_wp2_with fail
  refine (HN.out _).mono ?_
  rintro e w2 ⟨rfl, hb2⟩
  have mid := mid.kept hb2
  clear hb2 q0 q1 q2 q3 q4 q5
  have a0 := fun o => (mid.alloc o).at'.mode
  have a1 := fun o => (mid.alloc o).at'.tag
  have a2 := fun o => (mid.alloc o).at'.attr
  have a3 := fun o => (mid.alloc o).at'.inside
  have a4 := fun o => (mid.alloc o).at'.run
  have a5 := fun o => (mid.alloc o).at'.far
  simp only [HP.out] at a0
  have hw := fun o => (mid.alloc o).below
  have hsl := fun o => (mid.alloc o).res
  obtain ⟨v0, p0⟩ := mid.res.cell 0 (by omega)
  obtain ⟨v1, p1⟩ := mid.res.cell 1 (by omega)
  obtain ⟨v2, p2⟩ := mid.res.cell 2 (by omega)
  obtain ⟨v3, p3⟩ := mid.res.cell 3 (by omega)
  obtain ⟨v4, p4⟩ := mid.res.cell 4 (by omega)
  obtain ⟨v5, p5⟩ := mid.res.cell 5 (by omega)
  have rlt := mid.res.lt
  have r0 := fun o => (heap_cell_old w2 o ⟨w.heap.size + 1, 0, none⟩ rlt).trans p0
  have r1 := fun o => (heap_cell_old w2 o ⟨w.heap.size + 1, 1, none⟩ rlt).trans p1
  have r2 := fun o => (heap_cell_old w2 o ⟨w.heap.size + 1, 2, none⟩ rlt).trans p2
  have r3 := fun o => (heap_cell_old w2 o ⟨w.heap.size + 1, 3, none⟩ rlt).trans p3
  have r4 := fun o => (heap_cell_old w2 o ⟨w.heap.size + 1, 4, none⟩ rlt).trans p4
  have r5 := fun o => (heap_cell_old w2 o ⟨w.heap.size + 1, 5, none⟩ rlt).trans p5
  have f0 := fun o => (mid.alloc o).res.thaw 0
  have f1 := fun o => (mid.alloc o).res.thaw 1
  have f2 := fun o => (mid.alloc o).res.thaw 2
  have f3 := fun o => (mid.alloc o).res.thaw 3
  have f4 := fun o => (mid.alloc o).res.thaw 4
  have f5 := fun o => (mid.alloc o).res.thaw 5
  have g0 := mid.res.thaw 0
  have g1 := mid.res.thaw 1
  have g2 := mid.res.thaw 2
  have g3 := mid.res.thaw 3
  have g4 := mid.res.thaw 4
  have g5 := mid.res.thaw 5
  have hw2 := mid.below
  have hsl2 := mid.res
  have s0 := fun o o2 => (heap_cell_old (w2.alloc o) o2 ⟨w.heap.size + 1, 0, none⟩ (by simp; omega)).trans ((heap_cell_old w2 o ⟨w.heap.size + 1, 0, none⟩ rlt).trans p0)
  have b0 := fun o o2 => ((mid.alloc o).alloc o2).at'.mode
  have h0 := fun o o2 => ((mid.alloc o).alloc o2).res.thaw 0
  have s1 := fun o o2 => (heap_cell_old (w2.alloc o) o2 ⟨w.heap.size + 1, 1, none⟩ (by simp; omega)).trans ((heap_cell_old w2 o ⟨w.heap.size + 1, 1, none⟩ rlt).trans p1)
  have b1 := fun o o2 => ((mid.alloc o).alloc o2).at'.tag
  have h1 := fun o o2 => ((mid.alloc o).alloc o2).res.thaw 1
  have s2 := fun o o2 => (heap_cell_old (w2.alloc o) o2 ⟨w.heap.size + 1, 2, none⟩ (by simp; omega)).trans ((heap_cell_old w2 o ⟨w.heap.size + 1, 2, none⟩ rlt).trans p2)
  have b2 := fun o o2 => ((mid.alloc o).alloc o2).at'.attr
  have h2 := fun o o2 => ((mid.alloc o).alloc o2).res.thaw 2
  have s3 := fun o o2 => (heap_cell_old (w2.alloc o) o2 ⟨w.heap.size + 1, 3, none⟩ (by simp; omega)).trans ((heap_cell_old w2 o ⟨w.heap.size + 1, 3, none⟩ rlt).trans p3)
  have b3 := fun o o2 => ((mid.alloc o).alloc o2).at'.inside
  have h3 := fun o o2 => ((mid.alloc o).alloc o2).res.thaw 3
  have s4 := fun o o2 => (heap_cell_old (w2.alloc o) o2 ⟨w.heap.size + 1, 4, none⟩ (by simp; omega)).trans ((heap_cell_old w2 o ⟨w.heap.size + 1, 4, none⟩ rlt).trans p4)
  have b4 := fun o o2 => ((mid.alloc o).alloc o2).at'.run
  have h4 := fun o o2 => ((mid.alloc o).alloc o2).res.thaw 4
  have s5 := fun o o2 => (heap_cell_old (w2.alloc o) o2 ⟨w.heap.size + 1, 5, none⟩ (by simp; omega)).trans ((heap_cell_old w2 o ⟨w.heap.size + 1, 5, none⟩ rlt).trans p5)
  have b5 := fun o o2 => ((mid.alloc o).alloc o2).at'.far
  have h5 := fun o o2 => ((mid.alloc o).alloc o2).res.thaw 5
  have cv := fun o => one_here b (w2.alloc o) (w2.heap.size + 1) (by simp)
  have cd := fun o => one_drew b (w2.alloc o) (w2.heap.size + 1) (by simp)
  clear HT HN HM hw hsl
  go_wp2_with (go_at_call 81; refine (HIs.out _).mono ?_; rintro e w' ⟨rfl, rfl⟩)
  refine (HK.out _).mono ?_
  rintro e w4 ⟨rfl, rfl⟩
  go_wp2_with fail
  refine bodyPost_set6 Tryd.results63 (w.heap.size + 1) _ Tryd.underlying64 rfl (by kernel_rfl) rfl (((mid.alloc _).alloc _).res) rfl _ _ _ _ _ _ ?_
  exact ⟨rfl, below_set6 ((mid.alloc _).alloc _).below (by simp) _ _ _ _ _ _⟩

end Go.Proofs.YtfkhljmiehdgmaaDoor

/-
  The walks of the document's answer on pages: a byte is read by the table: all cases, and a byte read anew in the mode around.
-/
namespace Go.Proofs.YtfkhljmiehdgmaaDoor
open Go.RowKit

theorem again_modes {m : Nat} {b : UInt8} (hm : m ≤ 33) (h : Pl.tgt m b = -2) : m = 2 ∨ m = 24 ∨ m = 31 := by
  have key : ∀ k : Fin 34, (k.val = 2 ∨ k.val = 24 ∨ k.val = 31) ∨ ∀ r ∈ Pl.rowsOf k.val, ¬ r.2 = -2 := by decide
  rcases key ⟨m, by omega⟩ with q | q
  · exact q
  · exfalso
    unfold Pl.tgt at h
    split at h
    · next r hr => exact q r (List.mem_of_find?_eq_some hr) h
    · omega

theorem Slot6.put {w : World} {g : Nat} (h : Slot6 w g) (k j : Nat) (v : Value) (hk : ¬ g = k) : Slot6 (w.setCell ⟨k, j, none⟩ v) g := by
  obtain ⟨cs, t, h, hs⟩ := h
  exact ⟨cs, t, (Below.heap_setCell w ⟨k, j, none⟩ v g hk).trans h, hs⟩

theorem step1_any (p : Pl.Sp) (m : Nat) (b : UInt8) (w : World) (hpm : p.mode = m) (hm : m ≤ 33) (ht : p.tag.length ≤ 1000) (ha : p.attr.length ≤ 1000) (hrl : p.run.length ≤ 10000000) (hT2 : ¬ Pl.tgt m b = -2) :
    Calls Tryd.prog 63 #[spVal p, .int .u8 b.toNat] w fun e w' => e = .returned (spVal (p.step1 m b)) ∧ Below w.heap.size w w' := by
  by_cases hT : Pl.tgt m b = -1
  · by_cases hc : Pl.contentOf p.tag = 1
    · exact step_content_text p m b w hpm hm hT hc
    · exact step_content_other p m b w hpm hm hT hc
  · by_cases hs : Pl.tgt m b = m
    · by_cases h1 : m = 1
      · exact step_runs1 p m b w hpm hm ht ha hs hrl h1
      · by_cases h8 : m = 8
        · exact step_runs8 p m b w hpm hm ht ha hs hrl h8
        · by_cases h9 : m = 9
          · exact step_runs9 p m b w hpm hm ht ha hs hrl h9
          · by_cases hi : Pl.isStr m = true
            · exact step_runsS p m b w hpm hm ht ha hs hrl hi
            · refine step_stay p m b w hpm hm ht ha hs ?_
              unfold Pl.runs
              rw [Bool.not_eq_true] at hi
              have e1 : ((m : Int) == 1) = false := by rw [beq_eq_false_iff_ne]; omega
              have e8 : ((m : Int) == 8) = false := by rw [beq_eq_false_iff_ne]; omega
              have e9 : ((m : Int) == 9) = false := by rw [beq_eq_false_iff_ne]; omega
              rw [hi, e1, e8, e9]; rfl
    · by_cases h8 : Pl.tgt m b = 8
      · exact step_quote8 p m b w hpm hm ht ha h8 (fun q => hs (by rw [h8, q]; rfl))
      · by_cases h9 : Pl.tgt m b = 9
        · exact step_quote9 p m b w hpm hm ht ha h9 (fun q => hs (by rw [h9, q]; rfl))
        · exact step_plain p m b w hpm hm ht ha hT hT2 hs h8 h9

set_option maxRecDepth 100000 in
set_option maxHeartbeats 3200000 in
theorem step_again2 (p : Pl.Sp) (b : UInt8) (w : World) (hpm : p.mode = ((2 : Nat) : Int)) (ht : p.tag.length ≤ 1000) (ha : p.attr.length ≤ 1000) (hT : Pl.tgt 2 b = -2) :
    Calls Tryd.prog 63 #[spVal p, .int .u8 b.toNat] w fun e w' => e = .returned (spVal ((Pl.Sp.mk 1 p.tag p.attr p.inside [] p.far).step1 1 b)) ∧ Below w.heap.size w w' := by
  have hTg := fun w => target_any 2 b w (by omega)
  rw [hT] at hTg
  have hR := fun w => step1_any (Pl.Sp.mk 1 p.tag p.attr p.inside [] p.far) 1 b w rfl (by omega) ht ha (by simp) (fun q => by rcases again_modes (by omega) q with q | q | q <;> omega)
  generalize (Pl.Sp.mk 1 p.tag p.attr p.inside [] p.far).step1 1 b = N at hR ⊢
  obtain ⟨nm, nt, na, ni, nr, nf⟩ := N
  unfold spVal spCells at hR ⊢
  simp only at hR ⊢
  rw [hpm] at ⊢
  have HT := (show Hid _ from hTg)
  have HR := (show Hid _ from hR)
  have HM := fun t t' cs hc => SpMid.start (w0 := w) p cs t t' hc
  unfold spCells at HM
  rw [hpm] at HM
  have HP : Hid (p.mode = ((2 : Nat) : Int)) := hpm
  clear hTg hR hT hpm
  go_enter Tryd.func63, Tryd.ntmps63
  go_wp2_with fail
  refine (HT.out _).mono ?_
  rintro e w1 ⟨rfl, hb1⟩
  have mid := (HM _ _ _ rfl).kept hb1
  clear hb1
  have q0 := mid.at'.mode
  have g0 := mid.slot.thaw 0
  have q1 := mid.at'.tag
  have g1 := mid.slot.thaw 1
  have q2 := mid.at'.attr
  have g2 := mid.slot.thaw 2
  have q3 := mid.at'.inside
  have g3 := mid.slot.thaw 3
  have q4 := mid.at'.run
  have g4 := mid.slot.thaw 4
  have q5 := mid.at'.far
  have g5 := mid.slot.thaw 5
  rw [HP.out] at q0
  have hw := mid.below
  have hsl := mid.res
  have ge := mid.eq
  clear mid
  go_wp2_with fail
  refine (HR.out _).mono ?_
  rintro e w2 ⟨rfl, hb2⟩
  have hw2 := ((hw.setCell (p := ⟨w.heap.size, 0, none⟩) (Nat.le_refl _) _).setCell (p := ⟨w.heap.size, 4, none⟩) (Nat.le_refl _) _).trans (hb2.mono ((hw.setCell (p := ⟨w.heap.size, 0, none⟩) (Nat.le_refl _) _).setCell (p := ⟨w.heap.size, 4, none⟩) (Nat.le_refl _) _).size)
  have hsl2 := ((hsl.put w.heap.size 0 _ (by omega)).put w.heap.size 4 _ (by omega)).kept hb2 ((hsl.put w.heap.size 0 _ (by omega)).put w.heap.size 4 _ (by omega)).lt
  clear hb2
  obtain ⟨v0, p0⟩ := hsl2.cell 0 (by omega)
  have f0 := hsl2.thaw 0
  obtain ⟨v1, p1⟩ := hsl2.cell 1 (by omega)
  have f1 := hsl2.thaw 1
  obtain ⟨v2, p2⟩ := hsl2.cell 2 (by omega)
  have f2 := hsl2.thaw 2
  obtain ⟨v3, p3⟩ := hsl2.cell 3 (by omega)
  have f3 := hsl2.thaw 3
  obtain ⟨v4, p4⟩ := hsl2.cell 4 (by omega)
  have f4 := hsl2.thaw 4
  obtain ⟨v5, p5⟩ := hsl2.cell 5 (by omega)
  have f5 := hsl2.thaw 5
  go_wp2_with fail
  refine bodyPost_set6 Tryd.results63 (w.heap.size + 1) _ Tryd.underlying64 rfl (by kernel_rfl) rfl hsl2 rfl _ _ _ _ _ _ ?_
  exact ⟨rfl, below_set6 hw2 (by simp) _ _ _ _ _ _⟩

set_option maxRecDepth 100000 in
set_option maxHeartbeats 3200000 in
theorem step_again24 (p : Pl.Sp) (b : UInt8) (w : World) (hpm : p.mode = ((24 : Nat) : Int)) (ht : p.tag.length ≤ 1000) (ha : p.attr.length ≤ 1000) (hT : Pl.tgt 24 b = -2) :
    Calls Tryd.prog 63 #[spVal p, .int .u8 b.toNat] w fun e w' => e = .returned (spVal ((Pl.Sp.mk 20 p.tag p.attr p.inside [] p.far).step1 20 b)) ∧ Below w.heap.size w w' := by
  have hTg := fun w => target_any 24 b w (by omega)
  rw [hT] at hTg
  have hR := fun w => step1_any (Pl.Sp.mk 20 p.tag p.attr p.inside [] p.far) 20 b w rfl (by omega) ht ha (by simp) (fun q => by rcases again_modes (by omega) q with q | q | q <;> omega)
  generalize (Pl.Sp.mk 20 p.tag p.attr p.inside [] p.far).step1 20 b = N at hR ⊢
  obtain ⟨nm, nt, na, ni, nr, nf⟩ := N
  unfold spVal spCells at hR ⊢
  simp only at hR ⊢
  rw [hpm] at ⊢
  have HT := (show Hid _ from hTg)
  have HR := (show Hid _ from hR)
  have HM := fun t t' cs hc => SpMid.start (w0 := w) p cs t t' hc
  unfold spCells at HM
  rw [hpm] at HM
  have HP : Hid (p.mode = ((24 : Nat) : Int)) := hpm
  clear hTg hR hT hpm
  go_enter Tryd.func63, Tryd.ntmps63
  go_wp2_with fail
  refine (HT.out _).mono ?_
  rintro e w1 ⟨rfl, hb1⟩
  have mid := (HM _ _ _ rfl).kept hb1
  clear hb1
  have q0 := mid.at'.mode
  have g0 := mid.slot.thaw 0
  have q1 := mid.at'.tag
  have g1 := mid.slot.thaw 1
  have q2 := mid.at'.attr
  have g2 := mid.slot.thaw 2
  have q3 := mid.at'.inside
  have g3 := mid.slot.thaw 3
  have q4 := mid.at'.run
  have g4 := mid.slot.thaw 4
  have q5 := mid.at'.far
  have g5 := mid.slot.thaw 5
  rw [HP.out] at q0
  have hw := mid.below
  have hsl := mid.res
  have ge := mid.eq
  clear mid
  go_wp2_with fail
  refine (HR.out _).mono ?_
  rintro e w2 ⟨rfl, hb2⟩
  have hw2 := ((hw.setCell (p := ⟨w.heap.size, 0, none⟩) (Nat.le_refl _) _).setCell (p := ⟨w.heap.size, 4, none⟩) (Nat.le_refl _) _).trans (hb2.mono ((hw.setCell (p := ⟨w.heap.size, 0, none⟩) (Nat.le_refl _) _).setCell (p := ⟨w.heap.size, 4, none⟩) (Nat.le_refl _) _).size)
  have hsl2 := ((hsl.put w.heap.size 0 _ (by omega)).put w.heap.size 4 _ (by omega)).kept hb2 ((hsl.put w.heap.size 0 _ (by omega)).put w.heap.size 4 _ (by omega)).lt
  clear hb2
  obtain ⟨v0, p0⟩ := hsl2.cell 0 (by omega)
  have f0 := hsl2.thaw 0
  obtain ⟨v1, p1⟩ := hsl2.cell 1 (by omega)
  have f1 := hsl2.thaw 1
  obtain ⟨v2, p2⟩ := hsl2.cell 2 (by omega)
  have f2 := hsl2.thaw 2
  obtain ⟨v3, p3⟩ := hsl2.cell 3 (by omega)
  have f3 := hsl2.thaw 3
  obtain ⟨v4, p4⟩ := hsl2.cell 4 (by omega)
  have f4 := hsl2.thaw 4
  obtain ⟨v5, p5⟩ := hsl2.cell 5 (by omega)
  have f5 := hsl2.thaw 5
  go_wp2_with fail
  refine bodyPost_set6 Tryd.results63 (w.heap.size + 1) _ Tryd.underlying64 rfl (by kernel_rfl) rfl hsl2 rfl _ _ _ _ _ _ ?_
  exact ⟨rfl, below_set6 hw2 (by simp) _ _ _ _ _ _⟩

set_option maxRecDepth 100000 in
set_option maxHeartbeats 3200000 in
theorem step_again31 (p : Pl.Sp) (b : UInt8) (w : World) (hpm : p.mode = ((31 : Nat) : Int)) (ht : p.tag.length ≤ 1000) (ha : p.attr.length ≤ 1000) (hT : Pl.tgt 31 b = -2) :
    Calls Tryd.prog 63 #[spVal p, .int .u8 b.toNat] w fun e w' => e = .returned (spVal ((Pl.Sp.mk 28 p.tag p.attr p.inside [] p.far).step1 28 b)) ∧ Below w.heap.size w w' := by
  have hTg := fun w => target_any 31 b w (by omega)
  rw [hT] at hTg
  have hR := fun w => step1_any (Pl.Sp.mk 28 p.tag p.attr p.inside [] p.far) 28 b w rfl (by omega) ht ha (by simp) (fun q => by rcases again_modes (by omega) q with q | q | q <;> omega)
  generalize (Pl.Sp.mk 28 p.tag p.attr p.inside [] p.far).step1 28 b = N at hR ⊢
  obtain ⟨nm, nt, na, ni, nr, nf⟩ := N
  unfold spVal spCells at hR ⊢
  simp only at hR ⊢
  rw [hpm] at ⊢
  have HT := (show Hid _ from hTg)
  have HR := (show Hid _ from hR)
  have HM := fun t t' cs hc => SpMid.start (w0 := w) p cs t t' hc
  unfold spCells at HM
  rw [hpm] at HM
  have HP : Hid (p.mode = ((31 : Nat) : Int)) := hpm
  clear hTg hR hT hpm
  go_enter Tryd.func63, Tryd.ntmps63
  go_wp2_with fail
  refine (HT.out _).mono ?_
  rintro e w1 ⟨rfl, hb1⟩
  have mid := (HM _ _ _ rfl).kept hb1
  clear hb1
  have q0 := mid.at'.mode
  have g0 := mid.slot.thaw 0
  have q1 := mid.at'.tag
  have g1 := mid.slot.thaw 1
  have q2 := mid.at'.attr
  have g2 := mid.slot.thaw 2
  have q3 := mid.at'.inside
  have g3 := mid.slot.thaw 3
  have q4 := mid.at'.run
  have g4 := mid.slot.thaw 4
  have q5 := mid.at'.far
  have g5 := mid.slot.thaw 5
  rw [HP.out] at q0
  have hw := mid.below
  have hsl := mid.res
  have ge := mid.eq
  clear mid
  go_wp2_with fail
  refine (HR.out _).mono ?_
  rintro e w2 ⟨rfl, hb2⟩
  have hw2 := ((hw.setCell (p := ⟨w.heap.size, 0, none⟩) (Nat.le_refl _) _).setCell (p := ⟨w.heap.size, 4, none⟩) (Nat.le_refl _) _).trans (hb2.mono ((hw.setCell (p := ⟨w.heap.size, 0, none⟩) (Nat.le_refl _) _).setCell (p := ⟨w.heap.size, 4, none⟩) (Nat.le_refl _) _).size)
  have hsl2 := ((hsl.put w.heap.size 0 _ (by omega)).put w.heap.size 4 _ (by omega)).kept hb2 ((hsl.put w.heap.size 0 _ (by omega)).put w.heap.size 4 _ (by omega)).lt
  clear hb2
  obtain ⟨v0, p0⟩ := hsl2.cell 0 (by omega)
  have f0 := hsl2.thaw 0
  obtain ⟨v1, p1⟩ := hsl2.cell 1 (by omega)
  have f1 := hsl2.thaw 1
  obtain ⟨v2, p2⟩ := hsl2.cell 2 (by omega)
  have f2 := hsl2.thaw 2
  obtain ⟨v3, p3⟩ := hsl2.cell 3 (by omega)
  have f3 := hsl2.thaw 3
  obtain ⟨v4, p4⟩ := hsl2.cell 4 (by omega)
  have f4 := hsl2.thaw 4
  obtain ⟨v5, p5⟩ := hsl2.cell 5 (by omega)
  have f5 := hsl2.thaw 5
  go_wp2_with fail
  refine bodyPost_set6 Tryd.results63 (w.heap.size + 1) _ Tryd.underlying64 rfl (by kernel_rfl) rfl hsl2 rfl _ _ _ _ _ _ ?_
  exact ⟨rfl, below_set6 hw2 (by simp) _ _ _ _ _ _⟩

theorem spStep_any (p : Pl.Sp) (m : Nat) (b : UInt8) (w : World) (hpm : p.mode = m) (hm : m ≤ 33) (ht : p.tag.length ≤ 1000) (ha : p.attr.length ≤ 1000) (hrl : p.run.length ≤ 10000000) :
    Calls Tryd.prog 63 #[spVal p, .int .u8 b.toNat] w fun e w' => e = .returned (spVal (p.step m b)) ∧ Below w.heap.size w w' := by
  unfold Pl.Sp.step
  by_cases hT : Pl.tgt m b = -2
  · rw [if_pos hT]
    rcases again_modes hm hT with rfl | rfl | rfl
    · exact step_again2 p b w hpm ht ha hT
    · exact step_again24 p b w hpm ht ha hT
    · exact step_again31 p b w hpm ht ha hT
  · rw [if_neg hT]
    exact step1_any p m b w hpm hm ht ha hrl hT

end Go.Proofs.YtfkhljmiehdgmaaDoor

/-
  The walks of the document's answer on pages: a byte within an element: the element ends.
-/
namespace Go.Proofs.YtfkhljmiehdgmaaDoor
open Go.RowKit

set_option maxRecDepth 100000 in
set_option maxHeartbeats 1600000 in
theorem element_start (p : Pl.Sp) (b : UInt8) (w : World) (ht : p.tag.length ≤ 1000) (hi : p.inside.length ≤ 1000) (hr : p.read = (Pl.spEnd p.tag).length) (ha : Pl.among b Pl.endBytes = true) (hb : b = 62) :
    Calls Tryd.prog 62 #[spVal p, .int .u8 b.toNat] w fun e w' => e = .returned (spVal Pl.Sp.start) ∧ Below w.heap.size w w' := by
  have hzt : (ByteArray.mk p.tag.toArray).size = p.tag.length := by simp [ByteArray.size]
  have hR := fun w => read_any p w ht hi
  have hrn : p.read = p.tag.length + 2 := by rw [hr]; rfl
  rw [hrn] at hR
  have te : (((p.tag.length + 2 : Nat) : Int) == (p.tag.length : Int) + 2) = true := by rw [beq_iff_eq]; omega
  have hA := fun w => amongL b ⟨#[9, 10, 12, 13, 32, 47, 62]⟩ Pl.endBytes w rfl (by decide)
  rw [ha] at hA
  have t62 : ((b.toNat : Int) == 62) = true := by
    subst hb; rfl
  have HR := (show Hid _ from hR)
  have HA := (show Hid _ from hA)
  have HS := (show Hid _ from fun w => spStart_any w)
  have HM := fun t t' cs hc => SpMid.start (w0 := w) p cs t t' hc
  unfold spVal at HR ⊢
  unfold spCells at HM HR ⊢
  rw [show Pl.Sp.start = ⟨1, [], [], [], [], 0⟩ from rfl]
  clear hR hA hr hrn ha hb
  go_enter Tryd.func62, Tryd.ntmps62
  go_wp2_with fail
  refine (HR.out _).mono ?_
  rintro e w1 ⟨rfl, hb1⟩
  have mid := (HM _ _ _ rfl).kept hb1
  clear hb1
  have q0 := mid.at'.mode
  have q1 := mid.at'.tag
  have q2 := mid.at'.attr
  have q3 := mid.at'.inside
  have q4 := mid.at'.run
  have q5 := mid.at'.far
  go_wp2_with (go_at_call 48; refine (HA.out _).mono ?_; rintro e w' ⟨rfl, rfl⟩)
  refine (HS.out _).mono ?_
  rintro e w3 ⟨rfl, hw3⟩
  have mid := mid.alloc (.cells #[.int .i64 1, .string ⟨#[]⟩, .string ⟨#[]⟩, .string ⟨#[]⟩, .string ⟨#[]⟩, .int .i64 0] 64)
  have hw := mid.below
  have hsl := mid.res
  obtain ⟨v0, p0⟩ := hsl.cell 0 (by omega)
  have f0 := hsl.thaw 0
  obtain ⟨v1, p1⟩ := hsl.cell 1 (by omega)
  have f1 := hsl.thaw 1
  obtain ⟨v2, p2⟩ := hsl.cell 2 (by omega)
  have f2 := hsl.thaw 2
  obtain ⟨v3, p3⟩ := hsl.cell 3 (by omega)
  have f3 := hsl.thaw 3
  obtain ⟨v4, p4⟩ := hsl.cell 4 (by omega)
  have f4 := hsl.thaw 4
  obtain ⟨v5, p5⟩ := hsl.cell 5 (by omega)
  have f5 := hsl.thaw 5
  subst hw3
  go_wp2_with fail
  refine bodyPost_set6 Tryd.results62 (w.heap.size + 1) _ Tryd.underlying64 rfl (by kernel_rfl) rfl hsl rfl _ _ _ _ _ _ ?_
  exact ⟨rfl, below_set6 hw (by simp) _ _ _ _ _ _⟩

set_option maxRecDepth 100000 in
set_option maxHeartbeats 1600000 in
theorem element_endname (p : Pl.Sp) (b : UInt8) (w : World) (ht : p.tag.length ≤ 1000) (hi : p.inside.length ≤ 1000) (hr : p.read = (Pl.spEnd p.tag).length) (ha : Pl.among b Pl.endBytes = true) (hb : ¬ b = 62) :
    Calls Tryd.prog 62 #[spVal p, .int .u8 b.toNat] w fun e w' => e = .returned (spVal ⟨12, [], [], [], [], 0⟩) ∧ Below w.heap.size w w' := by
  have hzt : (ByteArray.mk p.tag.toArray).size = p.tag.length := by simp [ByteArray.size]
  have hR := fun w => read_any p w ht hi
  have hrn : p.read = p.tag.length + 2 := by rw [hr]; rfl
  rw [hrn] at hR
  have te : (((p.tag.length + 2 : Nat) : Int) == (p.tag.length : Int) + 2) = true := by rw [beq_iff_eq]; omega
  have hA := fun w => amongL b ⟨#[9, 10, 12, 13, 32, 47, 62]⟩ Pl.endBytes w rfl (by decide)
  rw [ha] at hA
  have t62 : ((b.toNat : Int) == 62) = false := by
    cases h : ((b.toNat : Int) == 62); rfl; exact absurd (is_byte b 62 h) hb
  have HR := (show Hid _ from hR)
  have HA := (show Hid _ from hA)
  have HS := (show Hid _ from fun w => spStart_any w)
  have HM := fun t t' cs hc => SpMid.start (w0 := w) p cs t t' hc
  unfold spVal at HR ⊢
  unfold spCells at HM HR ⊢
  
  clear hR hA hr hrn ha hb
  go_enter Tryd.func62, Tryd.ntmps62
  go_wp2_with fail
  refine (HR.out _).mono ?_
  rintro e w1 ⟨rfl, hb1⟩
  have mid := (HM _ _ _ rfl).kept hb1
  clear hb1
  have q0 := mid.at'.mode
  have q1 := mid.at'.tag
  have q2 := mid.at'.attr
  have q3 := mid.at'.inside
  have q4 := mid.at'.run
  have q5 := mid.at'.far
  have hw := mid.below
  have hsl := mid.res
  obtain ⟨v0, p0⟩ := hsl.cell 0 (by omega)
  have f0 := hsl.thaw 0
  obtain ⟨v1, p1⟩ := hsl.cell 1 (by omega)
  have f1 := hsl.thaw 1
  obtain ⟨v2, p2⟩ := hsl.cell 2 (by omega)
  have f2 := hsl.thaw 2
  obtain ⟨v3, p3⟩ := hsl.cell 3 (by omega)
  have f3 := hsl.thaw 3
  obtain ⟨v4, p4⟩ := hsl.cell 4 (by omega)
  have f4 := hsl.thaw 4
  obtain ⟨v5, p5⟩ := hsl.cell 5 (by omega)
  have f5 := hsl.thaw 5
  go_wp2_with (go_at_call 48; refine (HA.out _).mono ?_; rintro e w' ⟨rfl, rfl⟩)
  refine bodyPost_set6 Tryd.results62 (w.heap.size + 1) _ Tryd.underlying64 rfl (by kernel_rfl) rfl hsl rfl _ _ _ _ _ _ ?_
  exact ⟨rfl, below_set6 hw (by simp) _ _ _ _ _ _⟩

end Go.Proofs.YtfkhljmiehdgmaaDoor
