/-
  The walks of the program: Escape.
-/
import Derived.Test.YtfkhljmiehdgmaaDoorWalkP
import Derived.Test.YtfkhljmiehdgmaaDoorPlainN
import Derived.Deep.RegionWith
namespace Go.Proofs.YtfkhljmiehdgmaaDoor
open Go.RowKit

set_option maxRecDepth 100000 in
set_option maxHeartbeats 3200000 in
theorem first_any (c : List UInt8) (w : World) (ht : Tabs w) (hc : c.length ≤ 30000000) :
    Calls Tryd.prog 37 #[.string ⟨c.toArray⟩] w fun e w' => e = .returned (.string ⟨(Pl.firstOf c).toArray⟩) ∧ Below w.heap.size w w' := by
  have hcs : (ByteArray.mk c.toArray).size = c.length := rfl
  have hB := ht.lt
  by_cases h0 : Pl.schemed c = 0
  · have HV : Hid (Pl.firstOf c = Pl.encOf 3 c) := Pl.first_none c h0
    have HE : Hid (Pl.schemeEnd c = -1) := Pl.schemeEnd_none c h0
    go_enter Tryd.func37, Tryd.ntmps37
    go_wp2_with fail
    refine (schemeEnd_any ⟨c.toArray⟩ _ (by rw [hcs]; omega)).mono ?_
    rintro e w' ⟨rfl, rfl⟩
    rw [show (ByteArray.mk c.toArray).data.toList = c from rfl, HE.out]
    go_wp2_with fail
    refine (write_any 3 (.inr (.inl rfl)) ⟨c.toArray⟩ _ ht (by rw [hcs]; omega)).mono ?_
    rintro e w2 ⟨rfl, hb2⟩
    go_wp2_with fail
    go_ret
    exact ⟨ret_str (by rw [HV.out]), hb2⟩
  · obtain ⟨k, hk⟩ : ∃ k, Pl.schemed c = k + 1 := ⟨Pl.schemed c - 1, by omega⟩
    have hle : k + 1 ≤ c.length := hk ▸ Pl.schemed_le c
    have HE : Hid (Pl.schemeEnd c = (k : Int)) := Pl.schemeEnd_some c k hk
    have e1 := Pl.take_arr c k
    by_cases ho : Pl.open0 (Pl.lower (c.take k)) = true
    · have HV : Hid (Pl.firstOf c = c.take (k + 1) ++ Pl.encOf 3 (c.drop (k + 1))) := Pl.first_open c k hk ho
      have HO : Hid (isOpen (c.take k) = true) := ho
      clear hk h0 ho
      go_enter Tryd.func37, Tryd.ntmps37
      go_wp2_with fail
      refine (schemeEnd_any ⟨c.toArray⟩ _ (by rw [hcs]; omega)).mono ?_
      rintro e w' ⟨rfl, rfl⟩
      rw [show (ByteArray.mk c.toArray).data.toList = c from rfl, HE.out]
      go_wp2_with fail
      refine (isOpen_any ⟨(c.take k).toArray⟩ _ (by show (c.take k).toArray.size ≤ _; simp; omega) ht).mono ?_
      rintro e w1 ⟨rfl, hb1⟩
      rw [show (ByteArray.mk (c.take k).toArray).data.toList = c.take k from rfl, HO.out]
      have hz1 := hb1.size
      have ht1 := ht.kept hb1 hB
      go_wp2_with fail
      have e2 : ∀ w, (Instr.slice 9 (.string ⟨c.toArray⟩) none (some (.int .i64 ((k : Int) + 1))) none).run Tryd.prog w = .ok (.string ⟨(c.take (k + 1)).toArray⟩) w := by
        intro w
        rw [run_slice_string_h (P := Tryd.prog) w 9 ⟨c.toArray⟩ Tryd.underlying9 .i64 ((k : Int) + 1) (by omega) (by rw [hcs]; omega), ← Pl.take_arr c (k + 1)]
        rfl
      have e3 : ∀ w, (Instr.slice 9 (.string ⟨c.toArray⟩) (some (.int .i64 ((k : Int) + 1))) none none).run Tryd.prog w = .ok (.string ⟨(c.drop (k + 1)).toArray⟩) w := by
        intro w
        rw [run_slice_string_l (P := Tryd.prog) w 9 ⟨c.toArray⟩ Tryd.underlying9 .i64 ((k : Int) + 1) (by omega) (by rw [hcs]; omega), ← Pl.drop_arr c (k + 1)]
        rfl
      have hl : (Pl.encOf 3 (c.drop (k + 1))).length ≤ 400000000 := by
        have := Pl.flatMap_len 6 Pl.linkOf_len (c.drop (k + 1))
        rw [List.length_drop] at this
        rw [Pl.enc3]; unfold Pl.linked; omega
      have hle1 : (k : Int) + 1 ≤ (c.length : Int) := by omega
      have hle2 : 0 ≤ (k : Int) + 1 := by omega
      have hw : IntKind.i64.wrap ((k : Int) + 1) = (k : Int) + 1 := by rw [IntKind.wrap_i64]; omega
      go_region_with (go_at_call 38; refine (write_any 3 (.inr (.inl rfl)) ⟨(c.drop (k + 1)).toArray⟩ _ (by exact ht1) (by show (c.drop (k + 1)).toArray.size ≤ _; simp; omega)).mono ?_; rintro e w2 ⟨rfl, hb2⟩)
      go_wp2
      go_ret
      exact ⟨ret_str (by rw [HV.out, ← Pl.cat_eq]), hb1.drew.trans (hb2.mono hz1)⟩
    · have ho : Pl.open0 (Pl.lower (c.take k)) = false := Bool.eq_false_iff.2 ho
      have HV : Hid (Pl.firstOf c = Pl.blocked) := Pl.first_blocked c k hk ho
      have HO : Hid (isOpen (c.take k) = false) := ho
      clear hk h0 ho
      go_enter Tryd.func37, Tryd.ntmps37
      go_wp2_with fail
      refine (schemeEnd_any ⟨c.toArray⟩ _ (by rw [hcs]; omega)).mono ?_
      rintro e w' ⟨rfl, rfl⟩
      rw [show (ByteArray.mk c.toArray).data.toList = c from rfl, HE.out]
      go_wp2_with fail
      refine (isOpen_any ⟨(c.take k).toArray⟩ _ (by show (c.take k).toArray.size ≤ _; simp; omega) ht).mono ?_
      rintro e w1 ⟨rfl, hb1⟩
      rw [show (ByteArray.mk (c.take k).toArray).data.toList = c.take k from rfl, HO.out]
      go_wp2_with fail
      go_ret
      exact ⟨ret_str (by rw [HV.out]; rfl), hb1⟩

theorem size_of (c : List UInt8) : (ByteArray.mk c.toArray).size = c.length := rfl

set_option maxRecDepth 100000 in
set_option maxHeartbeats 3200000 in
theorem value_way (kd : Int) (hk : kd = 1 ∨ kd = 3 ∨ kd = 4 ∨ kd = 5) (s : ByteArray) (w : World) (ht : Tabs w) (hs : s.size ≤ 10000000) :
    Calls Tryd.prog 20 #[.int .i64 kd, .string s] w fun e w' => e = .returned (.tuple #[.string ⟨(Pl.encOf kd (Pl.clean s.data.toList)).toArray⟩, .int .i64 0]) ∧ Below w.heap.size w w' := by
  have hc := Pl.clean_size s.data.toList 10000000 hs
  have hB := ht.lt
  generalize hcl : Pl.clean s.data.toList = c at hc
  have HC : Hid (Pl.clean s.data.toList = c) := hcl
  have hcs := size_of c
  clear hcl
  rcases hk with rfl | rfl | rfl | rfl
  all_goals
    go_enter Tryd.func20, Tryd.ntmps20
    go_wp2_with fail
    refine (clean_any s _ (by omega)).mono ?_
    rintro e w1 ⟨rfl, hb1⟩
    rw [HC.out]
    have hz1 := hb1.size
    have ht1 := ht.kept hb1 hB
    go_wp2_with fail
    refine (write_any _ (by omega) ⟨c.toArray⟩ _ ht1 (by rw [hcs]; omega)).mono ?_
    rintro e w2 ⟨rfl, hb2⟩
    go_wp2_with fail
    go_ret2
    exact ⟨rfl, hb1.trans (hb2.mono hz1)⟩

set_option maxRecDepth 100000 in
set_option maxHeartbeats 3200000 in
theorem value_first (s : ByteArray) (w : World) (ht : Tabs w) (hs : s.size ≤ 10000000) :
    Calls Tryd.prog 20 #[.int .i64 2, .string s] w fun e w' => e = .returned (.tuple #[.string ⟨(Pl.firstOf (Pl.clean s.data.toList)).toArray⟩, .int .i64 0]) ∧ Below w.heap.size w w' := by
  have hc := Pl.clean_size s.data.toList 10000000 hs
  have hB := ht.lt
  generalize hcl : Pl.clean s.data.toList = c at hc
  have HC : Hid (Pl.clean s.data.toList = c) := hcl
  clear hcl
  go_enter Tryd.func20, Tryd.ntmps20
  go_wp2_with fail
  refine (clean_any s _ (by omega)).mono ?_
  rintro e w1 ⟨rfl, hb1⟩
  rw [HC.out]
  have hz1 := hb1.size
  have ht1 := ht.kept hb1 hB
  go_wp2_with fail
  refine (first_any c _ ht1 (by omega)).mono ?_
  rintro e w2 ⟨rfl, hb2⟩
  go_wp2_with fail
  go_ret2
  exact ⟨rfl, hb1.trans (hb2.mono hz1)⟩

set_option maxRecDepth 100000 in
set_option maxHeartbeats 3200000 in
theorem value_other (kd : Int) (s : ByteArray) (w : World) (h : kd < 1 ∨ 5 < kd) :
    Calls Tryd.prog 20 #[.int .i64 kd, .string s] w fun e w' => e = .returned (.tuple #[.string ⟨#[]⟩, .int .i64 1]) ∧ Below w.heap.size w w' := by
  have h1 : (kd == 1) = false := beq_eq_false_iff_ne.2 (by omega)
  have h2 : (kd == 2) = false := beq_eq_false_iff_ne.2 (by omega)
  have h3 : (kd == 3) = false := beq_eq_false_iff_ne.2 (by omega)
  have h4 : (kd == 4) = false := beq_eq_false_iff_ne.2 (by omega)
  have h5 : (kd == 5) = false := beq_eq_false_iff_ne.2 (by omega)
  go_enter Tryd.func20, Tryd.ntmps20
  go_wp2_with fail
  go_ret2
  exact ⟨rfl, Below.refl _ _⟩

/-- the program's Escape is the document's -/
theorem value_any (kd : Int) (s : ByteArray) (w : World) (ht : Tabs w) (hs : s.size ≤ 10000000) :
    Calls Tryd.prog 20 #[.int .i64 kd, .string s] w fun e w' => e = .returned (.tuple #[.string ⟨(Pl.escape kd s.data.toList).toArray⟩, .int .i64 (Pl.escErr kd)]) ∧ Below w.heap.size w w' := by
  unfold Pl.escape Pl.escErr
  by_cases h1 : kd = 1
  · subst h1; exact value_way 1 (.inl rfl) s w ht hs
  by_cases h3 : kd = 3
  · subst h3; exact value_way 3 (.inr (.inl rfl)) s w ht hs
  by_cases h2 : kd = 2
  · subst h2; exact value_first s w ht hs
  by_cases h4 : kd = 4
  · subst h4; exact value_way 4 (.inr (.inr (.inl rfl))) s w ht hs
  by_cases h5 : kd = 5
  · subst h5; exact value_way 5 (.inr (.inr (.inr rfl))) s w ht hs
  rw [if_neg h1, if_neg h3, if_neg h2, if_neg h4, if_neg h5, if_neg (by omega)]
  exact value_other kd s w (by omega)

set_option maxRecDepth 100000 in
set_option maxHeartbeats 800000 in
theorem Escape_any (kd : Int) (s : ByteArray) (w : World) (ht : Tabs w) (hs : s.size ≤ 10000000) :
    Calls Tryd.prog 9 #[.int .i64 kd, .string s] w fun e w' => e = .returned (.tuple #[.string ⟨(Pl.escape kd s.data.toList).toArray⟩, .int .i64 (Pl.escErr kd)]) ∧ Below w.heap.size w w' := by
  go_enter Tryd.func9, Tryd.ntmps9
  go_wp2_with fail
  refine (value_any kd s _ ht hs).mono ?_
  rintro e w2 ⟨rfl, hb2⟩
  go_wp2_with fail
  go_ret2
  exact ⟨rfl, hb2⟩

set_option maxRecDepth 100000 in
set_option maxHeartbeats 800000 in
theorem Clean_any (s : ByteArray) (w : World) (hs : s.size ≤ 100000000) :
    Calls Tryd.prog 10 #[.string s] w fun e w' => e = .returned (.string ⟨(Pl.clean s.data.toList).toArray⟩) ∧ Below w.heap.size w w' := by
  go_enter Tryd.func10, Tryd.ntmps10
  go_wp2_with fail
  refine (clean_any s _ hs).mono ?_
  rintro e w2 ⟨rfl, hb2⟩
  go_wp2_with fail
  go_ret
  exact ⟨rfl, hb2⟩

end Go.Proofs.YtfkhljmiehdgmaaDoor
