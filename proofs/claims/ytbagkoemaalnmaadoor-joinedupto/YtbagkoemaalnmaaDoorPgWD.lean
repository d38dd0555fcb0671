/-
  The walks of package markup: the tables' bytes.
-/
import Derived.Test.YtbagkoemaalnmaaDoorPgWS
namespace Go.Proofs.YtbagkoemaalnmaaDoor
open Go.RowKit

theorem lookup_here {l : List Pl.Step} {m k : Nat} {c : UInt8} {r : Pl.Step} (hr : l[k]? = some r) (hn : (l.take k).find? (Pl.hit m c) = none) (h1 : r.1 = m) (h2 : Pl.among c r.2.1 = true) : Pl.lookup l m c = r.2.2 := by
  unfold Pl.lookup
  rw [Pl.tab_here _ k r hr hn (by simp [Pl.hit, h1, h2])]
theorem lookup_none {l : List Pl.Step} {m k : Nat} {c : UInt8} (hk : l.length ≤ k) (hn : (l.take k).find? (Pl.hit m c) = none) : Pl.lookup l m c = 0 := by
  rw [List.take_of_length_le hk] at hn
  unfold Pl.lookup
  rw [hn]
theorem hit_not1 {m : Nat} {c : UInt8} {r : Pl.Step} (h : ¬ r.1 = m) : Pl.hit m c r = false := by simp [Pl.hit, h]
theorem hit_not2 {m : Nat} {c : UInt8} {r : Pl.Step} (h : Pl.among c r.2.1 = false) : Pl.hit m c r = false := by simp [Pl.hit, h]

set_option maxRecDepth 100000 in
set_option maxHeartbeats 3200000 in
theorem stepOn_low (m : Nat) (b : UInt8) (w : World) (ht : PTabs w) (hlo : m < 19) :
    Calls Tryd.prog 66 #[.int .u8 m, .int .u8 b.toNat] w fun e w' => e = .returned (.int .u8 (Pl.stepOn m b : Nat)) ∧ w = w' := by
  have hT := fun (k : Nat) (r : Pl.Step) (hk : Pl.markupTab[k]? = some r) => steps_at ht.mt k r hk
  have hlo' : (m : Int) < 19 := by omega
  clear ht
  by_cases hl : Pl.isLetter b = true
  · have HS : Hid (Pl.stepOn m b = Pl.lookup Pl.markupTab m 97) := by show _ = _; unfold Pl.stepOn Pl.asLetter; rw [if_pos hlo, if_pos hl]
    go_enter Tryd.func66, Tryd.ntmps66
    go_wp2_with (go_at_call 69; refine (letter_any b _).mono ?_; rintro e w' ⟨rfl, rfl⟩)
    go_loop [5, 12] (fun _ i => ∃ k : Nat, k ≤ 36 ∧ i = .int .i64 k ∧ (Pl.markupTab.take k).find? (Pl.hit m 97) = none) (fun _ i => 36 - (intOf i).toNat)
    case atStart => exact ⟨0, by omega, rfl, rfl⟩
    case round =>
      obtain ⟨k, hk, rfl, hn⟩ := hrel
      have HN : Hid ((Pl.markupTab.take k).find? (Pl.hit m 97) = none) := hn
      clear hn
      by_cases hkn : k < 36
      · obtain ⟨r, hr⟩ : ∃ r, Pl.markupTab[k]? = some r := ⟨_, List.getElem?_eq_getElem (show k < Pl.markupTab.length from hkn)⟩
        obtain ⟨q0, q1, q2⟩ := hT k r hr
        unfold bs at q1
        have HR : Hid (Pl.markupTab[k]? = some r) := hr
        clear hr hT
        by_cases hq : r.1 = m
        · have hq' : ((r.1 : Int) == (m : Int)) = true := by rw [hq]; simp
          have HQ : Hid (r.1 = m) := hq
          clear hq
          by_cases hb : Pl.among 97 r.2.1 = true
          · have HB : Hid (Pl.among 97 r.2.1 = true) := hb
            clear hb
            go_wp2_with (go_at_call 71; refine (pgIndexByte_yes 97 _ r.2.1 _ rfl HB.out).mono ?_; rintro e w' ⟨x, hx, rfl, rfl⟩)
            go_ret
            exact ⟨ret_int (by rw [HS.out, lookup_here HR.out HN.out HQ.out HB.out]), rfl⟩
          · have HB : Hid (Pl.among 97 r.2.1 = false) := Bool.eq_false_iff.2 hb
            clear hb
            go_wp2_with (go_at_call 71; refine (pgIndexByte_no 97 _ r.2.1 _ rfl HB.out).mono ?_; rintro e w' ⟨rfl, rfl⟩)
            go_round
            case rel => exact ⟨k + 1, by omega, by go_num, Pl.tab_next _ k r HR.out HN.out (hit_not2 HB.out)⟩
            case measure => simp [intOf]; omega
        · have hq' : ((r.1 : Int) == (m : Int)) = false := by rw [beq_eq_false_iff_ne]; omega
          have HQ : Hid (¬ r.1 = m) := hq
          clear hq
          go_wp2_with fail
          go_round
          case rel => exact ⟨k + 1, by omega, by go_num, Pl.tab_next _ k r HR.out HN.out (hit_not1 HQ.out)⟩
          case measure => simp [intOf]; omega
      · have HE : Hid (Pl.lookup Pl.markupTab m 97 = 0) := lookup_none (show Pl.markupTab.length ≤ k by show 36 ≤ k; omega) HN.out
        clear hT
        go_wp2_with fail
        go_ret
        exact ⟨ret_int (by rw [HS.out, HE.out]; rfl), rfl⟩
  · have hl := Bool.eq_false_iff.2 hl
    have HS : Hid (Pl.stepOn m b = Pl.lookup Pl.markupTab m b) := by show _ = _; unfold Pl.stepOn Pl.asLetter; rw [if_pos hlo, hl]; rfl
    go_enter Tryd.func66, Tryd.ntmps66
    go_wp2_with (go_at_call 69; refine (letter_any b _).mono ?_; rintro e w' ⟨rfl, rfl⟩)
    go_loop [5, 12] (fun _ i => ∃ k : Nat, k ≤ 36 ∧ i = .int .i64 k ∧ (Pl.markupTab.take k).find? (Pl.hit m b) = none) (fun _ i => 36 - (intOf i).toNat)
    case atStart => exact ⟨0, by omega, rfl, rfl⟩
    case round =>
      obtain ⟨k, hk, rfl, hn⟩ := hrel
      have HN : Hid ((Pl.markupTab.take k).find? (Pl.hit m b) = none) := hn
      clear hn
      by_cases hkn : k < 36
      · obtain ⟨r, hr⟩ : ∃ r, Pl.markupTab[k]? = some r := ⟨_, List.getElem?_eq_getElem (show k < Pl.markupTab.length from hkn)⟩
        obtain ⟨q0, q1, q2⟩ := hT k r hr
        unfold bs at q1
        have HR : Hid (Pl.markupTab[k]? = some r) := hr
        clear hr hT
        by_cases hq : r.1 = m
        · have hq' : ((r.1 : Int) == (m : Int)) = true := by rw [hq]; simp
          have HQ : Hid (r.1 = m) := hq
          clear hq
          by_cases hb : Pl.among b r.2.1 = true
          · have HB : Hid (Pl.among b r.2.1 = true) := hb
            clear hb
            go_wp2_with (go_at_call 71; refine (pgIndexByte_yes b _ r.2.1 _ rfl HB.out).mono ?_; rintro e w' ⟨x, hx, rfl, rfl⟩)
            go_ret
            exact ⟨ret_int (by rw [HS.out, lookup_here HR.out HN.out HQ.out HB.out]), rfl⟩
          · have HB : Hid (Pl.among b r.2.1 = false) := Bool.eq_false_iff.2 hb
            clear hb
            go_wp2_with (go_at_call 71; refine (pgIndexByte_no b _ r.2.1 _ rfl HB.out).mono ?_; rintro e w' ⟨rfl, rfl⟩)
            go_round
            case rel => exact ⟨k + 1, by omega, by go_num, Pl.tab_next _ k r HR.out HN.out (hit_not2 HB.out)⟩
            case measure => simp [intOf]; omega
        · have hq' : ((r.1 : Int) == (m : Int)) = false := by rw [beq_eq_false_iff_ne]; omega
          have HQ : Hid (¬ r.1 = m) := hq
          clear hq
          go_wp2_with fail
          go_round
          case rel => exact ⟨k + 1, by omega, by go_num, Pl.tab_next _ k r HR.out HN.out (hit_not1 HQ.out)⟩
          case measure => simp [intOf]; omega
      · have HE : Hid (Pl.lookup Pl.markupTab m b = 0) := lookup_none (show Pl.markupTab.length ≤ k by show 36 ≤ k; omega) HN.out
        clear hT
        go_wp2_with fail
        go_ret
        exact ⟨ret_int (by rw [HS.out, HE.out]; rfl), rfl⟩

set_option maxRecDepth 100000 in
set_option maxHeartbeats 3200000 in
theorem stepOn_high (m : Nat) (b : UInt8) (w : World) (ht : PTabs w) (hlo : ¬ m < 19) :
    Calls Tryd.prog 66 #[.int .u8 m, .int .u8 b.toNat] w fun e w' => e = .returned (.int .u8 (Pl.stepOn m b : Nat)) ∧ w = w' := by
  have hT := fun (k : Nat) (r : Pl.Step) (hk : Pl.contentTab[k]? = some r) => steps_at ht.ct k r hk
  have hlo' : decide ((m : Int) < 19) = false := by rw [decide_eq_false_iff_not]; omega
  clear ht
  by_cases hl : Pl.isLetter b = true
  · have HS : Hid (Pl.stepOn m b = Pl.lookup Pl.contentTab m 97) := by show _ = _; unfold Pl.stepOn Pl.asLetter; rw [if_neg hlo, if_pos hl]
    go_enter Tryd.func66, Tryd.ntmps66
    go_wp2_with (go_at_call 69; refine (letter_any b _).mono ?_; rintro e w' ⟨rfl, rfl⟩)
    go_loop [6, 35] (fun _ i => ∃ k : Nat, k ≤ 22 ∧ i = .int .i64 k ∧ (Pl.contentTab.take k).find? (Pl.hit m 97) = none) (fun _ i => 22 - (intOf i).toNat)
    case atStart => exact ⟨0, by omega, rfl, rfl⟩
    case round =>
      obtain ⟨k, hk, rfl, hn⟩ := hrel
      have HN : Hid ((Pl.contentTab.take k).find? (Pl.hit m 97) = none) := hn
      clear hn
      by_cases hkn : k < 22
      · obtain ⟨r, hr⟩ : ∃ r, Pl.contentTab[k]? = some r := ⟨_, List.getElem?_eq_getElem (show k < Pl.contentTab.length from hkn)⟩
        obtain ⟨q0, q1, q2⟩ := hT k r hr
        unfold bs at q1
        have HR : Hid (Pl.contentTab[k]? = some r) := hr
        clear hr hT
        by_cases hq : r.1 = m
        · have hq' : ((r.1 : Int) == (m : Int)) = true := by rw [hq]; simp
          have HQ : Hid (r.1 = m) := hq
          clear hq
          by_cases hb : Pl.among 97 r.2.1 = true
          · have HB : Hid (Pl.among 97 r.2.1 = true) := hb
            clear hb
            go_wp2_with (go_at_call 71; refine (pgIndexByte_yes 97 _ r.2.1 _ rfl HB.out).mono ?_; rintro e w' ⟨x, hx, rfl, rfl⟩)
            go_ret
            exact ⟨ret_int (by rw [HS.out, lookup_here HR.out HN.out HQ.out HB.out]), rfl⟩
          · have HB : Hid (Pl.among 97 r.2.1 = false) := Bool.eq_false_iff.2 hb
            clear hb
            go_wp2_with (go_at_call 71; refine (pgIndexByte_no 97 _ r.2.1 _ rfl HB.out).mono ?_; rintro e w' ⟨rfl, rfl⟩)
            go_round
            case rel => exact ⟨k + 1, by omega, by go_num, Pl.tab_next _ k r HR.out HN.out (hit_not2 HB.out)⟩
            case measure => simp [intOf]; omega
        · have hq' : ((r.1 : Int) == (m : Int)) = false := by rw [beq_eq_false_iff_ne]; omega
          have HQ : Hid (¬ r.1 = m) := hq
          clear hq
          go_wp2_with fail
          go_round
          case rel => exact ⟨k + 1, by omega, by go_num, Pl.tab_next _ k r HR.out HN.out (hit_not1 HQ.out)⟩
          case measure => simp [intOf]; omega
      · have HE : Hid (Pl.lookup Pl.contentTab m 97 = 0) := lookup_none (show Pl.contentTab.length ≤ k by show 22 ≤ k; omega) HN.out
        clear hT
        go_wp2_with fail
        go_ret
        exact ⟨ret_int (by rw [HS.out, HE.out]; rfl), rfl⟩
  · have hl := Bool.eq_false_iff.2 hl
    have HS : Hid (Pl.stepOn m b = Pl.lookup Pl.contentTab m b) := by show _ = _; unfold Pl.stepOn Pl.asLetter; rw [if_neg hlo, hl]; rfl
    go_enter Tryd.func66, Tryd.ntmps66
    go_wp2_with (go_at_call 69; refine (letter_any b _).mono ?_; rintro e w' ⟨rfl, rfl⟩)
    go_loop [6, 35] (fun _ i => ∃ k : Nat, k ≤ 22 ∧ i = .int .i64 k ∧ (Pl.contentTab.take k).find? (Pl.hit m b) = none) (fun _ i => 22 - (intOf i).toNat)
    case atStart => exact ⟨0, by omega, rfl, rfl⟩
    case round =>
      obtain ⟨k, hk, rfl, hn⟩ := hrel
      have HN : Hid ((Pl.contentTab.take k).find? (Pl.hit m b) = none) := hn
      clear hn
      by_cases hkn : k < 22
      · obtain ⟨r, hr⟩ : ∃ r, Pl.contentTab[k]? = some r := ⟨_, List.getElem?_eq_getElem (show k < Pl.contentTab.length from hkn)⟩
        obtain ⟨q0, q1, q2⟩ := hT k r hr
        unfold bs at q1
        have HR : Hid (Pl.contentTab[k]? = some r) := hr
        clear hr hT
        by_cases hq : r.1 = m
        · have hq' : ((r.1 : Int) == (m : Int)) = true := by rw [hq]; simp
          have HQ : Hid (r.1 = m) := hq
          clear hq
          by_cases hb : Pl.among b r.2.1 = true
          · have HB : Hid (Pl.among b r.2.1 = true) := hb
            clear hb
            go_wp2_with (go_at_call 71; refine (pgIndexByte_yes b _ r.2.1 _ rfl HB.out).mono ?_; rintro e w' ⟨x, hx, rfl, rfl⟩)
            go_ret
            exact ⟨ret_int (by rw [HS.out, lookup_here HR.out HN.out HQ.out HB.out]), rfl⟩
          · have HB : Hid (Pl.among b r.2.1 = false) := Bool.eq_false_iff.2 hb
            clear hb
            go_wp2_with (go_at_call 71; refine (pgIndexByte_no b _ r.2.1 _ rfl HB.out).mono ?_; rintro e w' ⟨rfl, rfl⟩)
            go_round
            case rel => exact ⟨k + 1, by omega, by go_num, Pl.tab_next _ k r HR.out HN.out (hit_not2 HB.out)⟩
            case measure => simp [intOf]; omega
        · have hq' : ((r.1 : Int) == (m : Int)) = false := by rw [beq_eq_false_iff_ne]; omega
          have HQ : Hid (¬ r.1 = m) := hq
          clear hq
          go_wp2_with fail
          go_round
          case rel => exact ⟨k + 1, by omega, by go_num, Pl.tab_next _ k r HR.out HN.out (hit_not1 HQ.out)⟩
          case measure => simp [intOf]; omega
      · have HE : Hid (Pl.lookup Pl.contentTab m b = 0) := lookup_none (show Pl.contentTab.length ≤ k by show 22 ≤ k; omega) HN.out
        clear hT
        go_wp2_with fail
        go_ret
        exact ⟨ret_int (by rw [HS.out, HE.out]; rfl), rfl⟩

theorem stepOn_any (m : Nat) (b : UInt8) (w : World) (ht : PTabs w) :
    Calls Tryd.prog 66 #[.int .u8 m, .int .u8 b.toNat] w fun e w' => e = .returned (.int .u8 (Pl.stepOn m b : Nat)) ∧ w = w' := by
  by_cases h : m < 19
  · exact stepOn_low m b w ht h
  · exact stepOn_high m b w ht h

end Go.Proofs.YtbagkoemaalnmaaDoor
