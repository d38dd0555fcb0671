/-
  The walk of the document's answer: Escape.
-/
import Derived.Test.YtfkhljmiehdgmaaDoorWalkG
import Derived.Test.YtfkhljmiehdgmaaDoorWalkD
import Derived.Test.YtfkhljmiehdgmaaDoorWalkE
import Derived.Test.YtfkhljmiehdgmaaDoorPlainH
import Derived.Deep.RegionWith
namespace Go.Proofs.YtfkhljmiehdgmaaDoor
open Go.RowKit

set_option maxRecDepth 100000 in
set_option maxHeartbeats 3200000 in
theorem refEscape_one (s : ByteArray) (w : World) (hs : s.size ≤ 10000000) :
    Calls Tryd.prog 18 #[.int .i64 1, .string s] w fun e w' => e = .returned (.tuple #[.string ⟨(Pl.texted (Pl.clean s.data.toList)).toArray⟩, .int .i64 0]) ∧ Below w.heap.size w w' := by
  have hc := Pl.clean_size s.data.toList 10000000 hs
  generalize hcl : Pl.clean s.data.toList = c at hc
  have HC : Hid (Pl.clean s.data.toList = c) := hcl
  clear hcl
  go_enter Tryd.func18, Tryd.ntmps18
  go_wp2_with fail
  refine (refClean_any s _ (by omega)).mono ?_
  rintro e w' ⟨rfl, rfl⟩
  rw [HC.out]
  go_wp2_with fail
  refine (texted_any ⟨c.toArray⟩ _ (by show c.toArray.size ≤ _; simp; omega)).mono ?_
  rintro e w' ⟨rfl, rfl⟩
  go_wp2_with fail
  go_ret2
  exact ⟨rfl, Below.refl _ _⟩

set_option maxRecDepth 100000 in
set_option maxHeartbeats 3200000 in
theorem refEscape_three (s : ByteArray) (w : World) (hs : s.size ≤ 10000000) :
    Calls Tryd.prog 18 #[.int .i64 3, .string s] w fun e w' => e = .returned (.tuple #[.string ⟨(Pl.linked (Pl.clean s.data.toList)).toArray⟩, .int .i64 0]) ∧ Below w.heap.size w w' := by
  have hc := Pl.clean_size s.data.toList 10000000 hs
  generalize hcl : Pl.clean s.data.toList = c at hc
  have HC : Hid (Pl.clean s.data.toList = c) := hcl
  clear hcl
  go_enter Tryd.func18, Tryd.ntmps18
  go_wp2_with fail
  refine (refClean_any s _ (by omega)).mono ?_
  rintro e w' ⟨rfl, rfl⟩
  rw [HC.out]
  go_wp2_with fail
  refine (linked_any ⟨c.toArray⟩ _ (by show c.toArray.size ≤ _; simp; omega)).mono ?_
  rintro e w' ⟨rfl, hb⟩
  go_wp2_with fail
  go_ret2
  exact ⟨rfl, hb⟩

set_option maxRecDepth 100000 in
set_option maxHeartbeats 3200000 in
theorem refEscape_four (s : ByteArray) (w : World) (hs : s.size ≤ 10000000) :
    Calls Tryd.prog 18 #[.int .i64 4, .string s] w fun e w' => e = .returned (.tuple #[.string ⟨(Pl.scripted (Pl.clean s.data.toList)).toArray⟩, .int .i64 0]) ∧ Below w.heap.size w w' := by
  have hc := Pl.clean_size s.data.toList 10000000 hs
  generalize hcl : Pl.clean s.data.toList = c at hc
  have HC : Hid (Pl.clean s.data.toList = c) := hcl
  clear hcl
  go_enter Tryd.func18, Tryd.ntmps18
  go_wp2_with fail
  refine (refClean_any s _ (by omega)).mono ?_
  rintro e w' ⟨rfl, rfl⟩
  rw [HC.out]
  go_wp2_with fail
  refine (scripted_any ⟨c.toArray⟩ _ (by show c.toArray.size ≤ _; simp; omega)).mono ?_
  rintro e w' ⟨rfl, hb⟩
  go_wp2_with fail
  go_ret2
  exact ⟨rfl, hb⟩

set_option maxRecDepth 100000 in
set_option maxHeartbeats 3200000 in
theorem refEscape_five (s : ByteArray) (w : World) (hs : s.size ≤ 10000000) :
    Calls Tryd.prog 18 #[.int .i64 5, .string s] w fun e w' => e = .returned (.tuple #[.string ⟨(Pl.styled (Pl.clean s.data.toList)).toArray⟩, .int .i64 0]) ∧ Below w.heap.size w w' := by
  have hc := Pl.clean_size s.data.toList 10000000 hs
  generalize hcl : Pl.clean s.data.toList = c at hc
  have HC : Hid (Pl.clean s.data.toList = c) := hcl
  clear hcl
  go_enter Tryd.func18, Tryd.ntmps18
  go_wp2_with fail
  refine (refClean_any s _ (by omega)).mono ?_
  rintro e w' ⟨rfl, rfl⟩
  rw [HC.out]
  go_wp2_with fail
  refine (styled_any ⟨c.toArray⟩ _ (by show c.toArray.size ≤ _; simp; omega)).mono ?_
  rintro e w' ⟨rfl, hb⟩
  go_wp2_with fail
  go_ret2
  exact ⟨rfl, hb⟩

set_option maxRecDepth 100000 in
set_option maxHeartbeats 3200000 in
theorem refEscape_other (kd : Int) (s : ByteArray) (w : World) (hs : s.size ≤ 10000000) (ha : kd < 1 ∨ 5 < kd) :
    Calls Tryd.prog 18 #[.int .i64 kd, .string s] w fun e w' => e = .returned (.tuple #[.string ⟨#[]⟩, .int .i64 1]) ∧ Below w.heap.size w w' := by
  have h1 : (kd == 1) = false := beq_eq_false_iff_ne.2 (by omega)
  have h2 : (kd == 2) = false := beq_eq_false_iff_ne.2 (by omega)
  have h3 : (kd == 3) = false := beq_eq_false_iff_ne.2 (by omega)
  have h4 : (kd == 4) = false := beq_eq_false_iff_ne.2 (by omega)
  have h5 : (kd == 5) = false := beq_eq_false_iff_ne.2 (by omega)
  go_enter Tryd.func18, Tryd.ntmps18
  go_wp2_with fail
  refine (refClean_any s _ (by omega)).mono ?_
  rintro e w' ⟨rfl, rfl⟩
  go_wp2_with fail
  go_ret2
  exact ⟨rfl, Below.refl _ _⟩

set_option maxRecDepth 100000 in
set_option maxHeartbeats 3200000 in
theorem refEscape_two (s : ByteArray) (w : World) (hs : s.size ≤ 10000000) :
    Calls Tryd.prog 18 #[.int .i64 2, .string s] w fun e w' => e = .returned (.tuple #[.string ⟨(Pl.firstOf (Pl.clean s.data.toList)).toArray⟩, .int .i64 0]) ∧ Below w.heap.size w w' := by
  have hc := Pl.clean_size s.data.toList 10000000 hs
  generalize hcl : Pl.clean s.data.toList = c at hc
  have HC : Hid (Pl.clean s.data.toList = c) := hcl
  clear hcl
  have hn := Pl.schemed_le c
  generalize hsc : Pl.schemed c = n at hn
  have HS : Hid (Pl.schemed c = n) := hsc
  clear hsc
  have HF : Hid (Pl.firstOf c = if 0 < n ∧ Pl.lower (c.take n) ≠ Pl.http ∧ Pl.lower (c.take n) ≠ Pl.https ∧ Pl.lower (c.take n) ≠ Pl.mailto then Pl.blocked else c.take n ++ Pl.linked (c.drop n)) := by
    show _ = _; unfold Pl.firstOf; rw [HS.out]
  generalize hp : Pl.lower (c.take n) = p at HF
  have HP : Hid (Pl.lower (c.take n) = p) := hp
  clear hp
  go_enter Tryd.func18, Tryd.ntmps18
  go_wp2_with fail
  refine (refClean_any s _ (by omega)).mono ?_
  rintro e w' ⟨rfl, rfl⟩
  rw [HC.out]
  go_wp2_with fail
  refine (schemed_any ⟨c.toArray⟩ _ (by show c.toArray.size ≤ _; simp; omega)).mono ?_
  rintro e w' ⟨rfl, rfl⟩
  rw [show (ByteArray.mk c.toArray).data.toList = c from rfl, HS.out]
  have e1 := Pl.take_arr c n
  go_wp2_with fail
  refine (lower_any ⟨(c.take n).toArray⟩ _ (by show (c.take n).toArray.size ≤ _; simp; omega)).mono ?_
  rintro e w1 ⟨rfl, hb1⟩
  rw [show (ByteArray.mk (c.take n).toArray).data.toList = c.take n from rfl, HP.out]
  go_wp2_with fail
  all_goals first
    | (have HV : Hid (Pl.firstOf c = Pl.blocked) := by
         show _ = _; rw [HF.out, if_pos (by simp_all [Pl.http, Pl.https, Pl.mailto])]
       go_ret2
       exact ⟨by rw [HV.out]; rfl, hb1⟩)
    | (have HV : Hid (Pl.firstOf c = c.take n ++ Pl.linked (c.drop n)) := by
         show _ = _; rw [HF.out, if_neg (by simp_all [Pl.http, Pl.https, Pl.mailto])]
       have e2 := Pl.drop_arr c n
       have hz := hb1.size
       have hl : (Pl.linked (c.drop n)).length ≤ 400000000 := by
         have := Pl.flatMap_len 6 Pl.linkOf_len (c.drop n)
         rw [List.length_drop] at this
         unfold Pl.linked; omega
       go_region_with (go_at_call 32; refine (linked_any ⟨(c.drop n).toArray⟩ _ (by show (c.drop n).toArray.size ≤ _; simp; omega)).mono ?_; rintro e w2 ⟨rfl, hb2⟩)
       go_wp2
       go_ret2
       exact ⟨by rw [HV.out, ← Pl.cat_eq]; rfl, hb1.drew.trans (hb2.mono hz)⟩)

/-- Escape as the document has it, at every way of writing -/
theorem refEscape_any (kd : Int) (s : ByteArray) (w : World) (hs : s.size ≤ 10000000) :
    Calls Tryd.prog 18 #[.int .i64 kd, .string s] w fun e w' => e = .returned (.tuple #[.string ⟨(Pl.escape kd s.data.toList).toArray⟩, .int .i64 (Pl.escErr kd)]) ∧ Below w.heap.size w w' := by
  unfold Pl.escape Pl.escErr
  by_cases h1 : kd = 1
  · subst h1; exact refEscape_one s w hs
  by_cases h3 : kd = 3
  · subst h3; exact refEscape_three s w hs
  by_cases h2 : kd = 2
  · subst h2; exact refEscape_two s w hs
  by_cases h4 : kd = 4
  · subst h4; exact refEscape_four s w hs
  by_cases h5 : kd = 5
  · subst h5; exact refEscape_five s w hs
  rw [if_neg h1, if_neg h3, if_neg h2, if_neg h4, if_neg h5, if_neg (by omega)]
  exact refEscape_other kd s w hs (by omega)

end Go.Proofs.YtfkhljmiehdgmaaDoor
