/-
  The walks of package markup that ask the library: the kind of an attribute, the tables' bytes.
-/
import Derived.Test.YtfkhljmiehdgmaaGreatDoorShelf
import Derived.Test.YtfkhljmiehdgmaaGreatDoorPgWA
import Derived.Test.YtfkhljmiehdgmaaGreatDoorMhA
namespace Go.Proofs.YtfkhljmiehdgmaaGreatDoor
open Go.RowKit

theorem pgIndexByte_yes (b : UInt8) (all : ByteArray) (l : List UInt8) (w : World) (ha : all.data.toList = l) (h : Pl.among b l = true) :
    Calls Tryz.prog 130 #[.string all, .int .u8 b.toNat] w fun e w' => ∃ x : Int, 0 ≤ x ∧ e = .returned (.int .i64 x) ∧ w = w' := by
  refine (Tryz.strings_IndexByte all b.toNat w).mono ?_
  rintro e w' ⟨rfl, rfl⟩
  refine ⟨_, ?_, rfl, rfl⟩
  rw [Pl.toUInt8_back, ha]
  rcases Pl.indexByte_iff l b with ⟨a, _⟩ | ⟨_, a⟩
  · exact a
  · rw [h] at a; cases a
theorem pgIndexByte_no (b : UInt8) (all : ByteArray) (l : List UInt8) (w : World) (ha : all.data.toList = l) (h : Pl.among b l = false) :
    Calls Tryz.prog 130 #[.string all, .int .u8 b.toNat] w fun e w' => e = .returned (.int .i64 (-1)) ∧ w = w' := by
  refine (Tryz.strings_IndexByte all b.toNat w).mono ?_
  rintro e w' ⟨rfl, rfl⟩
  refine ⟨ret_int ?_, rfl⟩
  rw [Pl.toUInt8_back, ha]
  rcases Pl.indexByte_iff l b with ⟨_, a⟩ | ⟨a, _⟩
  · rw [h] at a; cases a
  · exact a
theorem pgPrefix (s p : ByteArray) (l : List UInt8) (w : World) (hp : p.data.toList = l) :
    Calls Tryz.prog 191 #[.string s, .string p] w fun e w' => e = .returned (.bool (l.isPrefixOf s.data.toList)) ∧ w = w' := by
  refine (Tryz.strings_HasPrefix s p w).mono ?_
  rintro e w' ⟨rfl, rfl⟩
  exact ⟨ret_bool (by rw [hp]; rfl), rfl⟩
set_option maxRecDepth 100000 in
set_option maxHeartbeats 1600000 in
theorem kindOf_any (n : List UInt8) (w : World) (ht : PTabs w) :
    Calls Tryz.prog 186 #[.string ⟨n.toArray⟩] w fun e w' => e = .returned (.int .i64 (Pl.kindOf n)) ∧ w = w' := by
  obtain ⟨c0, d0, e0⟩ := attrs_at ht.at' 0 _ rfl
  obtain ⟨c1, d1, e1⟩ := attrs_at ht.at' 1 _ rfl
  obtain ⟨c2, d2, e2⟩ := attrs_at ht.at' 2 _ rfl
  obtain ⟨c3, d3, e3⟩ := attrs_at ht.at' 3 _ rfl
  obtain ⟨c4, d4, e4⟩ := attrs_at ht.at' 4 _ rfl
  simp only [bs, Pl.styleN, Nat.mul_zero, Nat.reduceMul, Nat.reduceAdd] at c0 c1 c2 c3 c4 d0 d1 d2 d3 d4 e0 e1 e2 e3 e4
  clear ht
  go_enter Tryz.func186, Tryz.ntmps186
  go_wp2
  go_loop [3, 4] (fun _ i => ∃ k : Nat, k ≤ 5 ∧ i = .int .i64 k ∧ (Pl.attrTab.take k).find? (Pl.fitsAttr n) = none) (fun _ i => 5 - (intOf i).toNat)
  case atStart => exact ⟨0, by omega, rfl, rfl⟩
  case round =>
    obtain ⟨k, hk, rfl, hn⟩ := hrel
    have HN : Hid ((Pl.attrTab.take k).find? (Pl.fitsAttr n) = none) := hn
    clear hn
    rcases (show k = 0 ∨ k = 1 ∨ k = 2 ∨ k = 3 ∨ k = 4 ∨ k = 5 by omega) with rfl | rfl | rfl | rfl | rfl | rfl
    · by_cases hq : ([104, 114, 101, 102] == n) = true
      · have HV : Hid (Pl.kindOf n = 1) := Pl.kindOf_here n 0 _ rfl HN.out (by show (([104, 114, 101, 102] == n) || _) = true; rw [hq]; rfl)
        go_wp2
        go_ret
        exact ⟨ret_int (by rw [HV.out]), rfl⟩
      · have hq := Bool.eq_false_iff.2 hq
        have HV : Hid ((Pl.attrTab.take (0 + 1)).find? (Pl.fitsAttr n) = none) := Pl.tab_next (Pl.fitsAttr n) 0 _ rfl HN.out (by show (([104, 114, 101, 102] == n) || _) = false; rw [hq]; rfl)
        go_wp2
        go_round
        case rel => exact ⟨1, by omega, rfl, HV.out⟩
        case measure => simp [intOf]
    · by_cases hq : ([115, 114, 99] == n) = true
      · have HV : Hid (Pl.kindOf n = 1) := Pl.kindOf_here n 1 _ rfl HN.out (by show (([115, 114, 99] == n) || _) = true; rw [hq]; rfl)
        go_wp2
        go_ret
        exact ⟨ret_int (by rw [HV.out]), rfl⟩
      · have hq := Bool.eq_false_iff.2 hq
        have HV : Hid ((Pl.attrTab.take (1 + 1)).find? (Pl.fitsAttr n) = none) := Pl.tab_next (Pl.fitsAttr n) 1 _ rfl HN.out (by show (([115, 114, 99] == n) || _) = false; rw [hq]; rfl)
        go_wp2
        go_round
        case rel => exact ⟨2, by omega, rfl, HV.out⟩
        case measure => simp [intOf]
    · by_cases hq : ([97, 99, 116, 105, 111, 110] == n) = true
      · have HV : Hid (Pl.kindOf n = 1) := Pl.kindOf_here n 2 _ rfl HN.out (by show (([97, 99, 116, 105, 111, 110] == n) || _) = true; rw [hq]; rfl)
        go_wp2
        go_ret
        exact ⟨ret_int (by rw [HV.out]), rfl⟩
      · have hq := Bool.eq_false_iff.2 hq
        have HV : Hid ((Pl.attrTab.take (2 + 1)).find? (Pl.fitsAttr n) = none) := Pl.tab_next (Pl.fitsAttr n) 2 _ rfl HN.out (by show (([97, 99, 116, 105, 111, 110] == n) || _) = false; rw [hq]; rfl)
        go_wp2
        go_round
        case rel => exact ⟨3, by omega, rfl, HV.out⟩
        case measure => simp [intOf]
    · by_cases hq : ([115, 116, 121, 108, 101] == n) = true
      · have HV : Hid (Pl.kindOf n = 2) := Pl.kindOf_here n 3 _ rfl HN.out (by show (([115, 116, 121, 108, 101] == n) || _) = true; rw [hq]; rfl)
        go_wp2
        go_ret
        exact ⟨ret_int (by rw [HV.out]), rfl⟩
      · have hq := Bool.eq_false_iff.2 hq
        have HV : Hid ((Pl.attrTab.take (3 + 1)).find? (Pl.fitsAttr n) = none) := Pl.tab_next (Pl.fitsAttr n) 3 _ rfl HN.out (by show (([115, 116, 121, 108, 101] == n) || _) = false; rw [hq]; rfl)
        go_wp2
        go_round
        case rel => exact ⟨4, by omega, rfl, HV.out⟩
        case measure => simp [intOf]
    · by_cases hq : ([111, 110] == n) = true
      · have HV : Hid (Pl.kindOf n = 2) := Pl.kindOf_here n 4 _ rfl HN.out (by show (([111, 110] == n) || _) = true; rw [hq]; rfl)
        go_wp2
        go_ret
        exact ⟨ret_int (by rw [HV.out]), rfl⟩
      · have hq := Bool.eq_false_iff.2 hq
        by_cases hp : List.isPrefixOf [111, 110] n = true
        · have HV : Hid (Pl.kindOf n = 2) := Pl.kindOf_here n 4 _ rfl HN.out (by show (([111, 110] == n) || (true && List.isPrefixOf [111, 110] n)) = true; rw [hp]; simp)
          go_wp2_with (go_at_call 191; refine (pgPrefix ⟨n.toArray⟩ _ [111, 110] _ rfl).mono ?_; rintro e w' ⟨rfl, rfl⟩)
          go_ret
          exact ⟨ret_int (by rw [HV.out]), rfl⟩
        · have hp := Bool.eq_false_iff.2 hp
          have HV : Hid ((Pl.attrTab.take (4 + 1)).find? (Pl.fitsAttr n) = none) := Pl.tab_next (Pl.fitsAttr n) 4 _ rfl HN.out (by show (([111, 110] == n) || (true && List.isPrefixOf [111, 110] n)) = false; rw [hq, hp]; rfl)
          go_wp2_with (go_at_call 191; refine (pgPrefix ⟨n.toArray⟩ _ [111, 110] _ rfl).mono ?_; rintro e w' ⟨rfl, rfl⟩)
          go_round
          case rel => exact ⟨5, by omega, rfl, HV.out⟩
          case measure => simp [intOf]
    · have HV : Hid (Pl.kindOf n = 0) := Pl.kindOf_none n HN.out
      go_wp2
      go_ret
      exact ⟨ret_int (by rw [HV.out]), rfl⟩

end Go.Proofs.YtfkhljmiehdgmaaGreatDoor
