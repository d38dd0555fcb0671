/-
  The walk of the program: which bytes are written by their numbers.
-/
import Derived.Test.YtfkhljmiehdgmaaDoorWalkM
import Derived.Test.YtfkhljmiehdgmaaDoorPlainK
namespace Go.Proofs.YtfkhljmiehdgmaaDoor
open Go.RowKit

set_option maxRecDepth 100000 in
set_option maxHeartbeats 3200000 in
theorem isCoded_three (b : UInt8) (w : World) (ht : Tabs w) :
    Calls Tryd.prog 56 #[.int .i64 3, .int .u8 b.toNat] w fun e w' => e = .returned (.bool (Pl.coded 3 b)) ∧ w = w' := by
  have c0 : w.cell? ⟨5, 21, none⟩ = some _ := ht.2.2 21 _ rfl
  have c1 : w.cell? ⟨5, 22, none⟩ = some _ := ht.2.2 22 _ rfl
  have c2 : w.cell? ⟨5, 23, none⟩ = some (.string ⟨#[45, 46, 95, 126, 47, 63, 35, 91, 93, 64, 33, 36, 40, 41, 42, 43, 44, 59, 61]⟩) := ht.2.2 23 _ rfl
  clear ht
  by_cases h1 : Pl.isLetter b = true
  · have HV : Hid (Pl.coded 3 b = false) := Pl.coded3_letter b h1
    go_enter Tryd.func56, Tryd.ntmps56
    go_wp2_with (first | (go_at_call 71; refine (letter_any b _).mono ?_; rintro e w' ⟨rfl, rfl⟩) | (go_at_call 72; refine (digit_any b _).mono ?_; rintro e w' ⟨rfl, rfl⟩))
    go_ret
    exact ⟨ret_bool (by rw [HV.out]), rfl⟩
  have h1 : Pl.isLetter b = false := Bool.eq_false_iff.2 h1
  by_cases h2 : Pl.isDigit b = true
  · have HV : Hid (Pl.coded 3 b = false) := Pl.coded3_digit b h2
    go_enter Tryd.func56, Tryd.ntmps56
    go_wp2_with (first | (go_at_call 71; refine (letter_any b _).mono ?_; rintro e w' ⟨rfl, rfl⟩) | (go_at_call 72; refine (digit_any b _).mono ?_; rintro e w' ⟨rfl, rfl⟩))
    go_ret
    exact ⟨ret_bool (by rw [HV.out]), rfl⟩
  have h2 : Pl.isDigit b = false := Bool.eq_false_iff.2 h2
  by_cases hp : Pl.among b [45, 46, 95, 126, 47, 63, 35, 91, 93, 64, 33, 36, 40, 41, 42, 43, 44, 59, 61] = true
  · have HV : Hid (Pl.coded 3 b = false) := Pl.coded3_kept b hp
    go_enter Tryd.func56, Tryd.ntmps56
    go_wp2_with (first | (go_at_call 71; refine (letter_any b _).mono ?_; rintro e w' ⟨rfl, rfl⟩) | (go_at_call 72; refine (digit_any b _).mono ?_; rintro e w' ⟨rfl, rfl⟩) | (go_at_call 73; refine (indexByte_yes b _ [45, 46, 95, 126, 47, 63, 35, 91, 93, 64, 33, 36, 40, 41, 42, 43, 44, 59, 61] _ rfl hp).mono ?_; rintro e w' ⟨x, hx, rfl, rfl⟩))
    go_ret
    exact ⟨ret_bool (by rw [HV.out]; simp; omega), rfl⟩
  have hp : Pl.among b [45, 46, 95, 126, 47, 63, 35, 91, 93, 64, 33, 36, 40, 41, 42, 43, 44, 59, 61] = false := Bool.eq_false_iff.2 hp
  have HV : Hid (Pl.coded 3 b = true) := Pl.coded3_yes b h1 h2 hp
  go_enter Tryd.func56, Tryd.ntmps56
  go_wp2_with (first | (go_at_call 71; refine (letter_any b _).mono ?_; rintro e w' ⟨rfl, rfl⟩) | (go_at_call 72; refine (digit_any b _).mono ?_; rintro e w' ⟨rfl, rfl⟩) | (go_at_call 73; refine (indexByte_no b _ [45, 46, 95, 126, 47, 63, 35, 91, 93, 64, 33, 36, 40, 41, 42, 43, 44, 59, 61] _ rfl hp).mono ?_; rintro e w' ⟨rfl, rfl⟩))
  go_ret
  exact ⟨ret_bool (by rw [HV.out]), rfl⟩

set_option maxRecDepth 100000 in
set_option maxHeartbeats 3200000 in
theorem isCoded_one (b : UInt8) (w : World) (ht : Tabs w) :
    Calls Tryd.prog 56 #[.int .i64 1, .int .u8 b.toNat] w fun e w' => e = .returned (.bool (Pl.coded 1 b)) ∧ w = w' := by
  have c0 : w.cell? ⟨5, 7, none⟩ = some _ := ht.2.2 7 _ rfl
  have c1 : w.cell? ⟨5, 8, none⟩ = some _ := ht.2.2 8 _ rfl
  have c2 : w.cell? ⟨5, 9, none⟩ = some _ := ht.2.2 9 _ rfl
  clear ht
  by_cases h1 : b.toNat < 32
  · have HV : Hid (Pl.coded 1 b = false) := Pl.coded1 b
    go_enter Tryd.func56, Tryd.ntmps56
    go_wp2_with (first | fail)
    go_ret
    exact ⟨ret_bool (by rw [HV.out]), rfl⟩
  by_cases h2 : b.toNat = 127
  · have HV : Hid (Pl.coded 1 b = false) := Pl.coded1 b
    have h2 : ((b.toNat : Int) == 127) = true := beq_iff_eq.2 (by omega)
    go_enter Tryd.func56, Tryd.ntmps56
    go_wp2_with (first | fail)
    go_ret
    exact ⟨ret_bool (by rw [HV.out]), rfl⟩
  have hcn : Hid (Pl.ctl b = false) := Pl.ctl_no b h1 h2
  have h2 : ((b.toNat : Int) == 127) = false := beq_eq_false_iff_ne.2 (by omega)
  have hp : Pl.among b [] = false := rfl
  have HV : Hid (Pl.coded 1 b = false) := Pl.coded1 b
  go_enter Tryd.func56, Tryd.ntmps56
  go_wp2_with (first | (go_at_call 73; refine (indexByte_no b _ [] _ rfl hp).mono ?_; rintro e w' ⟨rfl, rfl⟩))
  go_ret
  exact ⟨ret_bool (by rw [HV.out]), rfl⟩

set_option maxRecDepth 100000 in
set_option maxHeartbeats 3200000 in
theorem isCoded_four (b : UInt8) (w : World) (ht : Tabs w) :
    Calls Tryd.prog 56 #[.int .i64 4, .int .u8 b.toNat] w fun e w' => e = .returned (.bool (Pl.coded 4 b)) ∧ w = w' := by
  have c0 : w.cell? ⟨5, 28, none⟩ = some _ := ht.2.2 28 _ rfl
  have c1 : w.cell? ⟨5, 29, none⟩ = some _ := ht.2.2 29 _ rfl
  have c2 : w.cell? ⟨5, 30, none⟩ = some _ := ht.2.2 30 _ rfl
  clear ht
  by_cases h1 : b.toNat < 32
  · have HV : Hid (Pl.coded 4 b = true) := by show _ = _; rw [Pl.coded4, Pl.ctl_lo b h1]; rfl
    go_enter Tryd.func56, Tryd.ntmps56
    go_wp2_with (first | fail)
    go_ret
    exact ⟨ret_bool (by rw [HV.out]), rfl⟩
  by_cases h2 : b.toNat = 127
  · have HV : Hid (Pl.coded 4 b = true) := by show _ = _; rw [Pl.coded4, Pl.ctl_del b h2]; rfl
    have h2 : ((b.toNat : Int) == 127) = true := beq_iff_eq.2 (by omega)
    go_enter Tryd.func56, Tryd.ntmps56
    go_wp2_with (first | fail)
    go_ret
    exact ⟨ret_bool (by rw [HV.out]), rfl⟩
  have hcn : Hid (Pl.ctl b = false) := Pl.ctl_no b h1 h2
  have h2 : ((b.toNat : Int) == 127) = false := beq_eq_false_iff_ne.2 (by omega)
  by_cases hp : Pl.among b [34, 39, 38, 47, 60, 62, 92, 96] = true
  · have HV : Hid (Pl.coded 4 b = true) := by show _ = _; rw [Pl.coded4, hcn.out, hp]; rfl
    go_enter Tryd.func56, Tryd.ntmps56
    go_wp2_with (first | (go_at_call 73; refine (indexByte_yes b _ [34, 39, 38, 47, 60, 62, 92, 96] _ rfl hp).mono ?_; rintro e w' ⟨x, hx, rfl, rfl⟩))
    go_ret
    exact ⟨ret_bool (by rw [HV.out]), rfl⟩
  · have hp : Pl.among b [34, 39, 38, 47, 60, 62, 92, 96] = false := Bool.eq_false_iff.2 hp
    have HV : Hid (Pl.coded 4 b = false) := by show _ = _; rw [Pl.coded4, hcn.out, hp]; rfl
    go_enter Tryd.func56, Tryd.ntmps56
    go_wp2_with (first | (go_at_call 73; refine (indexByte_no b _ [34, 39, 38, 47, 60, 62, 92, 96] _ rfl hp).mono ?_; rintro e w' ⟨rfl, rfl⟩))
    go_ret
    exact ⟨ret_bool (by rw [HV.out]), rfl⟩

set_option maxRecDepth 100000 in
set_option maxHeartbeats 3200000 in
theorem isCoded_five (b : UInt8) (w : World) (ht : Tabs w) :
    Calls Tryd.prog 56 #[.int .i64 5, .int .u8 b.toNat] w fun e w' => e = .returned (.bool (Pl.coded 5 b)) ∧ w = w' := by
  have c0 : w.cell? ⟨5, 35, none⟩ = some _ := ht.2.2 35 _ rfl
  have c1 : w.cell? ⟨5, 36, none⟩ = some _ := ht.2.2 36 _ rfl
  have c2 : w.cell? ⟨5, 37, none⟩ = some _ := ht.2.2 37 _ rfl
  clear ht
  by_cases h1 : b.toNat < 32
  · have HV : Hid (Pl.coded 5 b = true) := by show _ = _; rw [Pl.coded5, Pl.ctl_lo b h1]; rfl
    go_enter Tryd.func56, Tryd.ntmps56
    go_wp2_with (first | fail)
    go_ret
    exact ⟨ret_bool (by rw [HV.out]), rfl⟩
  by_cases h2 : b.toNat = 127
  · have HV : Hid (Pl.coded 5 b = true) := by show _ = _; rw [Pl.coded5, Pl.ctl_del b h2]; rfl
    have h2 : ((b.toNat : Int) == 127) = true := beq_iff_eq.2 (by omega)
    go_enter Tryd.func56, Tryd.ntmps56
    go_wp2_with (first | fail)
    go_ret
    exact ⟨ret_bool (by rw [HV.out]), rfl⟩
  have hcn : Hid (Pl.ctl b = false) := Pl.ctl_no b h1 h2
  have h2 : ((b.toNat : Int) == 127) = false := beq_eq_false_iff_ne.2 (by omega)
  by_cases hp : Pl.among b [34, 39, 38, 47, 60, 62, 92] = true
  · have HV : Hid (Pl.coded 5 b = true) := by show _ = _; rw [Pl.coded5, hcn.out, hp]; rfl
    go_enter Tryd.func56, Tryd.ntmps56
    go_wp2_with (first | (go_at_call 73; refine (indexByte_yes b _ [34, 39, 38, 47, 60, 62, 92] _ rfl hp).mono ?_; rintro e w' ⟨x, hx, rfl, rfl⟩))
    go_ret
    exact ⟨ret_bool (by rw [HV.out]), rfl⟩
  · have hp : Pl.among b [34, 39, 38, 47, 60, 62, 92] = false := Bool.eq_false_iff.2 hp
    have HV : Hid (Pl.coded 5 b = false) := by show _ = _; rw [Pl.coded5, hcn.out, hp]; rfl
    go_enter Tryd.func56, Tryd.ntmps56
    go_wp2_with (first | (go_at_call 73; refine (indexByte_no b _ [34, 39, 38, 47, 60, 62, 92] _ rfl hp).mono ?_; rintro e w' ⟨rfl, rfl⟩))
    go_ret
    exact ⟨ret_bool (by rw [HV.out]), rfl⟩

end Go.Proofs.YtfkhljmiehdgmaaDoor
