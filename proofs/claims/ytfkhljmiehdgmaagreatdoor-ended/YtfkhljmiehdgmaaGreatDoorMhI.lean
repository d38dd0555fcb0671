/-
  Several texts laid together: each opens with its own remark.
-/
import Derived.Test.YtfkhljmiehdgmaaGreatDoorPgWS
import Derived.Test.YtfkhljmiehdgmaaGreatDoorMhG

/-
  The walk of cmp.Or at the program's modes.
-/
namespace Go.Proofs.YtfkhljmiehdgmaaGreatDoor
open Go.RowKit

theorem or3_eq (a b c : Nat) : Pl.or3 a b c = if a ≠ 0 then a else if b ≠ 0 then b else c := rfl
set_option maxRecDepth 100000 in
set_option maxHeartbeats 3200000 in
theorem or_any (a b c : Nat) (g : Nat) (w : World) (h0 : w.cell? ⟨g, 0, none⟩ = some (.int .u8 (a : Int))) (h1 : w.cell? ⟨g, 1, none⟩ = some (.int .u8 (b : Int))) (h2 : w.cell? ⟨g, 2, none⟩ = some (.int .u8 (c : Int))) :
    Calls Tryz.prog 97 #[.slice (some ⟨g, 0, none⟩) 3 3] w fun e w' => e = .returned (.int .u8 (Pl.or3 a b c : Nat)) ∧ w = w' := by
  generalize hor : Pl.or3 a b c = r
  have HO : Hid (Pl.or3 a b c = r) := hor
  clear hor
  go_enter Tryz.func97, Tryz.ntmps97
  go_wp2
  go_loop [5, 8] (fun _ i => ∃ k : Nat, k ≤ 3 ∧ i = .int .i64 k ∧ (1 ≤ k → a = 0) ∧ (2 ≤ k → b = 0) ∧ (3 ≤ k → c = 0)) (fun _ i => 3 - (intOf i).toNat)
  case atStart => exact ⟨0, by omega, rfl, by omega, by omega, by omega⟩
  case round =>
    obtain ⟨k, hk, rfl, g1, g2, g3⟩ := hrel
    have H1 : Hid (1 ≤ k → a = 0) := g1
    have H2 : Hid (2 ≤ k → b = 0) := g2
    have H3 : Hid (3 ≤ k → c = 0) := g3
    clear g1 g2 g3
    rcases (show k = 0 ∨ k = 1 ∨ k = 2 ∨ k = 3 by omega) with rfl | rfl | rfl | rfl
    · by_cases hq : a = 0
      · have HQ : Hid (a = 0) := hq
        have hq' : ((a : Int) != 0) = false := by rw [hq]; rfl
        clear hq
        go_wp2
        go_round
        case rel => exact ⟨1, by omega, rfl, fun _ => HQ.out, by omega, by omega⟩
        case measure => simp [intOf]
      · have q0 : a ≠ 0 := hq
        have HV : Hid (r = a) := by show _ = _; rw [← HO.out, or3_eq, if_pos q0]
        have hq' : ((a : Int) != 0) = true := by rw [bne_iff_ne]; omega
        clear hq q0
        go_wp2
        go_ret
        exact ⟨ret_int (by rw [HV.out]), rfl⟩
    · by_cases hq : b = 0
      · have HQ : Hid (b = 0) := hq
        have hq' : ((b : Int) != 0) = false := by rw [hq]; rfl
        clear hq
        go_wp2
        go_round
        case rel => exact ⟨2, by omega, rfl, fun _ => H1.out (by omega), fun _ => HQ.out, by omega⟩
        case measure => simp [intOf]
      · have q0 : b ≠ 0 := hq
        have HV : Hid (r = b) := by show _ = _; rw [← HO.out, or3_eq, if_neg (by simp [H1.out (by omega)]), if_pos q0]
        have hq' : ((b : Int) != 0) = true := by rw [bne_iff_ne]; omega
        clear hq q0
        go_wp2
        go_ret
        exact ⟨ret_int (by rw [HV.out]), rfl⟩
    · by_cases hq : c = 0
      · have HQ : Hid (c = 0) := hq
        have hq' : ((c : Int) != 0) = false := by rw [hq]; rfl
        clear hq
        go_wp2
        go_round
        case rel => exact ⟨3, by omega, rfl, fun _ => H1.out (by omega), fun _ => H2.out (by omega), fun _ => HQ.out⟩
        case measure => simp [intOf]
      · have q0 : c ≠ 0 := hq
        have HV : Hid (r = c) := by show _ = _; rw [← HO.out, or3_eq, if_neg (by simp [H1.out (by omega)]), if_neg (by simp [H2.out (by omega)])]
        have hq' : ((c : Int) != 0) = true := by rw [bne_iff_ne]; omega
        clear hq q0
        go_wp2
        go_ret
        exact ⟨ret_int (by rw [HV.out]), rfl⟩
    · have HV : Hid (r = 0) := by show _ = _; rw [← HO.out, or3_eq, if_neg (by simp [H1.out (by omega)]), if_neg (by simp [H2.out (by omega)])]; exact H3.out (by omega)
      go_wp2
      go_ret
      exact ⟨ret_int (by rw [HV.out]; rfl), rfl⟩

theorem or_at (a b c g : Nat) (w : World) (t : TypeId) (hg : w.heap.size = g) :
    Calls Tryz.prog 97 #[.slice (some ⟨g, 0, none⟩) 3 3] (w.alloc (.cells #[.int .u8 (a : Int), .int .u8 (b : Int), .int .u8 (c : Int)] t)) fun e w' => e = .returned (.int .u8 (Pl.or3 a b c : Nat)) ∧ w.alloc (.cells #[.int .u8 (a : Int), .int .u8 (b : Int), .int .u8 (c : Int)] t) = w' := by
  subst hg
  have h := cells_at_block (heap_alloc_new w (.cells #[.int .u8 (a : Int), .int .u8 (b : Int), .int .u8 (c : Int)] t))
  exact or_any a b c _ _ (h 0 _ rfl) (h 1 _ rfl) (h 2 _ rfl)

theorem or_drew (a b c g : Nat) (w : World) (t : TypeId) (hg : w.heap.size = g) :
    Calls Tryz.prog 97 #[.slice (some ⟨g, 0, none⟩) 3 3] (w.alloc (.cells #[.int .u8 (a : Int), .int .u8 (b : Int), .int .u8 (c : Int)] t)).drew fun e w' => e = .returned (.int .u8 (Pl.or3 a b c : Nat)) ∧ (w.alloc (.cells #[.int .u8 (a : Int), .int .u8 (b : Int), .int .u8 (c : Int)] t)).drew = w' := by
  subst hg
  have h := cells_at_block (heap_alloc_new w (.cells #[.int .u8 (a : Int), .int .u8 (b : Int), .int .u8 (c : Int)] t))
  exact or_any a b c _ _ (h 0 _ rfl) (h 1 _ rfl) (h 2 _ rfl)

end Go.Proofs.YtfkhljmiehdgmaaGreatDoor

/-
  The walks of package markup: the tables' bytes.
-/
namespace Go.Proofs.YtfkhljmiehdgmaaGreatDoor
open Go.RowKit

theorem lookup_here {l : List Pl.Step} {m k : Nat} {c : UInt8} {r : Pl.Step} (hr : l[k]? = some r) (hn : (l.take k).find? (Pl.hit m c) = none) (h1 : r.1 = m) (h2 : Pl.among c r.2.1 = true) : Pl.lookup l m c = r.2.2 := by
  unfold Pl.lookup
  rw [Pl.tab_here _ k r hr hn (by simp [Pl.hit, h1, h2])]
theorem lookup_none {l : List Pl.Step} {m k : Nat} {c : UInt8} (hk : l.length ≤ k) (hn : (l.take k).find? (Pl.hit m c) = none) : Pl.lookup l m c = 0 := by
  rw [List.take_of_length_le hk] at hn
  unfold Pl.lookup
  rw [hn]
theorem hit_not1 {m : Nat} {c : UInt8} {r : Pl.Step} (h : ¬ r.1 = m) : Pl.hit m c r = false := by simp [Pl.hit, h]
theorem hit_not2 {m : Nat} {c : UInt8} {r : Pl.Step} (h : Pl.among c r.2.1 = false) : Pl.hit m c r = false := by simp [Pl.hit, h]

set_option maxRecDepth 100000 in
set_option maxHeartbeats 3200000 in
theorem stepOn_low (m : Nat) (b : UInt8) (w : World) (ht : PTabs w) (hlo : m < 19) :
    Calls Tryz.prog 95 #[.int .u8 m, .int .u8 b.toNat] w fun e w' => e = .returned (.int .u8 (Pl.stepOn m b : Nat)) ∧ w = w' := by
  have hT := fun (k : Nat) (r : Pl.Step) (hk : Pl.markupTab[k]? = some r) => steps_at ht.mt k r hk
  have hlo' : (m : Int) < 19 := by omega
  clear ht
  by_cases hl : Pl.isLetter b = true
  · have HS : Hid (Pl.stepOn m b = Pl.lookup Pl.markupTab m 97) := by show _ = _; unfold Pl.stepOn Pl.asLetter; rw [if_pos hlo, if_pos hl]
    go_enter Tryz.func95, Tryz.ntmps95
    go_wp2_with (go_at_call 132; refine (letter_any b _).mono ?_; rintro e w' ⟨rfl, rfl⟩)
    go_loop [5, 12] (fun _ i => ∃ k : Nat, k ≤ 36 ∧ i = .int .i64 k ∧ (Pl.markupTab.take k).find? (Pl.hit m 97) = none) (fun _ i => 36 - (intOf i).toNat)
    case atStart => exact ⟨0, by omega, rfl, rfl⟩
    case round =>
      obtain ⟨k, hk, rfl, hn⟩ := hrel
      have HN : Hid ((Pl.markupTab.take k).find? (Pl.hit m 97) = none) := hn
      clear hn
      by_cases hkn : k < 36
      · obtain ⟨r, hr⟩ : ∃ r, Pl.markupTab[k]? = some r := ⟨_, List.getElem?_eq_getElem (show k < Pl.markupTab.length from hkn)⟩
        obtain ⟨q0, q1, q2⟩ := hT k r hr
        unfold bs at q1
        have HR : Hid (Pl.markupTab[k]? = some r) := hr
        clear hr hT
        by_cases hq : r.1 = m
        · have hq' : ((r.1 : Int) == (m : Int)) = true := by rw [hq]; simp
          have HQ : Hid (r.1 = m) := hq
          clear hq
          by_cases hb : Pl.among 97 r.2.1 = true
          · have HB : Hid (Pl.among 97 r.2.1 = true) := hb
            clear hb
            go_wp2_with (go_at_call 130; refine (pgIndexByte_yes 97 _ r.2.1 _ rfl HB.out).mono ?_; rintro e w' ⟨x, hx, rfl, rfl⟩)
            go_ret
            exact ⟨ret_int (by rw [HS.out, lookup_here HR.out HN.out HQ.out HB.out]), rfl⟩
          · have HB : Hid (Pl.among 97 r.2.1 = false) := Bool.eq_false_iff.2 hb
            clear hb
            go_wp2_with (go_at_call 130; refine (pgIndexByte_no 97 _ r.2.1 _ rfl HB.out).mono ?_; rintro e w' ⟨rfl, rfl⟩)
            go_round
            case rel => exact ⟨k + 1, by omega, by go_num, Pl.tab_next _ k r HR.out HN.out (hit_not2 HB.out)⟩
            case measure => simp [intOf]; omega
        · have hq' : ((r.1 : Int) == (m : Int)) = false := by rw [beq_eq_false_iff_ne]; omega
          have HQ : Hid (¬ r.1 = m) := hq
          clear hq
          go_wp2_with fail
          go_round
          case rel => exact ⟨k + 1, by omega, by go_num, Pl.tab_next _ k r HR.out HN.out (hit_not1 HQ.out)⟩
          case measure => simp [intOf]; omega
      · have HE : Hid (Pl.lookup Pl.markupTab m 97 = 0) := lookup_none (show Pl.markupTab.length ≤ k by show 36 ≤ k; omega) HN.out
        clear hT
        go_wp2_with fail
        go_ret
        exact ⟨ret_int (by rw [HS.out, HE.out]; rfl), rfl⟩
  · have hl := Bool.eq_false_iff.2 hl
    have HS : Hid (Pl.stepOn m b = Pl.lookup Pl.markupTab m b) := by show _ = _; unfold Pl.stepOn Pl.asLetter; rw [if_pos hlo, hl]; rfl
    go_enter Tryz.func95, Tryz.ntmps95
    go_wp2_with (go_at_call 132; refine (letter_any b _).mono ?_; rintro e w' ⟨rfl, rfl⟩)
    go_loop [5, 12] (fun _ i => ∃ k : Nat, k ≤ 36 ∧ i = .int .i64 k ∧ (Pl.markupTab.take k).find? (Pl.hit m b) = none) (fun _ i => 36 - (intOf i).toNat)
    case atStart => exact ⟨0, by omega, rfl, rfl⟩
    case round =>
      obtain ⟨k, hk, rfl, hn⟩ := hrel
      have HN : Hid ((Pl.markupTab.take k).find? (Pl.hit m b) = none) := hn
      clear hn
      by_cases hkn : k < 36
      · obtain ⟨r, hr⟩ : ∃ r, Pl.markupTab[k]? = some r := ⟨_, List.getElem?_eq_getElem (show k < Pl.markupTab.length from hkn)⟩
        obtain ⟨q0, q1, q2⟩ := hT k r hr
        unfold bs at q1
        have HR : Hid (Pl.markupTab[k]? = some r) := hr
        clear hr hT
        by_cases hq : r.1 = m
        · have hq' : ((r.1 : Int) == (m : Int)) = true := by rw [hq]; simp
          have HQ : Hid (r.1 = m) := hq
          clear hq
          by_cases hb : Pl.among b r.2.1 = true
          · have HB : Hid (Pl.among b r.2.1 = true) := hb
            clear hb
            go_wp2_with (go_at_call 130; refine (pgIndexByte_yes b _ r.2.1 _ rfl HB.out).mono ?_; rintro e w' ⟨x, hx, rfl, rfl⟩)
            go_ret
            exact ⟨ret_int (by rw [HS.out, lookup_here HR.out HN.out HQ.out HB.out]), rfl⟩
          · have HB : Hid (Pl.among b r.2.1 = false) := Bool.eq_false_iff.2 hb
            clear hb
            go_wp2_with (go_at_call 130; refine (pgIndexByte_no b _ r.2.1 _ rfl HB.out).mono ?_; rintro e w' ⟨rfl, rfl⟩)
            go_round
            case rel => exact ⟨k + 1, by omega, by go_num, Pl.tab_next _ k r HR.out HN.out (hit_not2 HB.out)⟩
            case measure => simp [intOf]; omega
        · have hq' : ((r.1 : Int) == (m : Int)) = false := by rw [beq_eq_false_iff_ne]; omega
          have HQ : Hid (¬ r.1 = m) := hq
          clear hq
          go_wp2_with fail
          go_round
          case rel => exact ⟨k + 1, by omega, by go_num, Pl.tab_next _ k r HR.out HN.out (hit_not1 HQ.out)⟩
          case measure => simp [intOf]; omega
      · have HE : Hid (Pl.lookup Pl.markupTab m b = 0) := lookup_none (show Pl.markupTab.length ≤ k by show 36 ≤ k; omega) HN.out
        clear hT
        go_wp2_with fail
        go_ret
        exact ⟨ret_int (by rw [HS.out, HE.out]; rfl), rfl⟩

set_option maxRecDepth 100000 in
set_option maxHeartbeats 3200000 in
theorem stepOn_high (m : Nat) (b : UInt8) (w : World) (ht : PTabs w) (hlo : ¬ m < 19) :
    Calls Tryz.prog 95 #[.int .u8 m, .int .u8 b.toNat] w fun e w' => e = .returned (.int .u8 (Pl.stepOn m b : Nat)) ∧ w = w' := by
  have hT := fun (k : Nat) (r : Pl.Step) (hk : Pl.contentTab[k]? = some r) => steps_at ht.ct k r hk
  have hlo' : decide ((m : Int) < 19) = false := by rw [decide_eq_false_iff_not]; omega
  clear ht
  by_cases hl : Pl.isLetter b = true
  · have HS : Hid (Pl.stepOn m b = Pl.lookup Pl.contentTab m 97) := by show _ = _; unfold Pl.stepOn Pl.asLetter; rw [if_neg hlo, if_pos hl]
    go_enter Tryz.func95, Tryz.ntmps95
    go_wp2_with (go_at_call 132; refine (letter_any b _).mono ?_; rintro e w' ⟨rfl, rfl⟩)
    go_loop [6, 35] (fun _ i => ∃ k : Nat, k ≤ 22 ∧ i = .int .i64 k ∧ (Pl.contentTab.take k).find? (Pl.hit m 97) = none) (fun _ i => 22 - (intOf i).toNat)
    case atStart => exact ⟨0, by omega, rfl, rfl⟩
    case round =>
      obtain ⟨k, hk, rfl, hn⟩ := hrel
      have HN : Hid ((Pl.contentTab.take k).find? (Pl.hit m 97) = none) := hn
      clear hn
      by_cases hkn : k < 22
      · obtain ⟨r, hr⟩ : ∃ r, Pl.contentTab[k]? = some r := ⟨_, List.getElem?_eq_getElem (show k < Pl.contentTab.length from hkn)⟩
        obtain ⟨q0, q1, q2⟩ := hT k r hr
        unfold bs at q1
        have HR : Hid (Pl.contentTab[k]? = some r) := hr
        clear hr hT
        by_cases hq : r.1 = m
        · have hq' : ((r.1 : Int) == (m : Int)) = true := by rw [hq]; simp
          have HQ : Hid (r.1 = m) := hq
          clear hq
          by_cases hb : Pl.among 97 r.2.1 = true
          · have HB : Hid (Pl.among 97 r.2.1 = true) := hb
            clear hb
            go_wp2_with (go_at_call 130; refine (pgIndexByte_yes 97 _ r.2.1 _ rfl HB.out).mono ?_; rintro e w' ⟨x, hx, rfl, rfl⟩)
            go_ret
            exact ⟨ret_int (by rw [HS.out, lookup_here HR.out HN.out HQ.out HB.out]), rfl⟩
          · have HB : Hid (Pl.among 97 r.2.1 = false) := Bool.eq_false_iff.2 hb
            clear hb
            go_wp2_with (go_at_call 130; refine (pgIndexByte_no 97 _ r.2.1 _ rfl HB.out).mono ?_; rintro e w' ⟨rfl, rfl⟩)
            go_round
            case rel => exact ⟨k + 1, by omega, by go_num, Pl.tab_next _ k r HR.out HN.out (hit_not2 HB.out)⟩
            case measure => simp [intOf]; omega
        · have hq' : ((r.1 : Int) == (m : Int)) = false := by rw [beq_eq_false_iff_ne]; omega
          have HQ : Hid (¬ r.1 = m) := hq
          clear hq
          go_wp2_with fail
          go_round
          case rel => exact ⟨k + 1, by omega, by go_num, Pl.tab_next _ k r HR.out HN.out (hit_not1 HQ.out)⟩
          case measure => simp [intOf]; omega
      · have HE : Hid (Pl.lookup Pl.contentTab m 97 = 0) := lookup_none (show Pl.contentTab.length ≤ k by show 22 ≤ k; omega) HN.out
        clear hT
        go_wp2_with fail
        go_ret
        exact ⟨ret_int (by rw [HS.out, HE.out]; rfl), rfl⟩
  · have hl := Bool.eq_false_iff.2 hl
    have HS : Hid (Pl.stepOn m b = Pl.lookup Pl.contentTab m b) := by show _ = _; unfold Pl.stepOn Pl.asLetter; rw [if_neg hlo, hl]; rfl
    go_enter Tryz.func95, Tryz.ntmps95
    go_wp2_with (go_at_call 132; refine (letter_any b _).mono ?_; rintro e w' ⟨rfl, rfl⟩)
    go_loop [6, 35] (fun _ i => ∃ k : Nat, k ≤ 22 ∧ i = .int .i64 k ∧ (Pl.contentTab.take k).find? (Pl.hit m b) = none) (fun _ i => 22 - (intOf i).toNat)
    case atStart => exact ⟨0, by omega, rfl, rfl⟩
    case round =>
      obtain ⟨k, hk, rfl, hn⟩ := hrel
      have HN : Hid ((Pl.contentTab.take k).find? (Pl.hit m b) = none) := hn
      clear hn
      by_cases hkn : k < 22
      · obtain ⟨r, hr⟩ : ∃ r, Pl.contentTab[k]? = some r := ⟨_, List.getElem?_eq_getElem (show k < Pl.contentTab.length from hkn)⟩
        obtain ⟨q0, q1, q2⟩ := hT k r hr
        unfold bs at q1
        have HR : Hid (Pl.contentTab[k]? = some r) := hr
        clear hr hT
        by_cases hq : r.1 = m
        · have hq' : ((r.1 : Int) == (m : Int)) = true := by rw [hq]; simp
          have HQ : Hid (r.1 = m) := hq
          clear hq
          by_cases hb : Pl.among b r.2.1 = true
          · have HB : Hid (Pl.among b r.2.1 = true) := hb
            clear hb
            go_wp2_with (go_at_call 130; refine (pgIndexByte_yes b _ r.2.1 _ rfl HB.out).mono ?_; rintro e w' ⟨x, hx, rfl, rfl⟩)
            go_ret
            exact ⟨ret_int (by rw [HS.out, lookup_here HR.out HN.out HQ.out HB.out]), rfl⟩
          · have HB : Hid (Pl.among b r.2.1 = false) := Bool.eq_false_iff.2 hb
            clear hb
            go_wp2_with (go_at_call 130; refine (pgIndexByte_no b _ r.2.1 _ rfl HB.out).mono ?_; rintro e w' ⟨rfl, rfl⟩)
            go_round
            case rel => exact ⟨k + 1, by omega, by go_num, Pl.tab_next _ k r HR.out HN.out (hit_not2 HB.out)⟩
            case measure => simp [intOf]; omega
        · have hq' : ((r.1 : Int) == (m : Int)) = false := by rw [beq_eq_false_iff_ne]; omega
          have HQ : Hid (¬ r.1 = m) := hq
          clear hq
          go_wp2_with fail
          go_round
          case rel => exact ⟨k + 1, by omega, by go_num, Pl.tab_next _ k r HR.out HN.out (hit_not1 HQ.out)⟩
          case measure => simp [intOf]; omega
      · have HE : Hid (Pl.lookup Pl.contentTab m b = 0) := lookup_none (show Pl.contentTab.length ≤ k by show 22 ≤ k; omega) HN.out
        clear hT
        go_wp2_with fail
        go_ret
        exact ⟨ret_int (by rw [HS.out, HE.out]; rfl), rfl⟩

theorem stepOn_any (m : Nat) (b : UInt8) (w : World) (ht : PTabs w) :
    Calls Tryz.prog 95 #[.int .u8 m, .int .u8 b.toNat] w fun e w' => e = .returned (.int .u8 (Pl.stepOn m b : Nat)) ∧ w = w' := by
  by_cases h : m < 19
  · exact stepOn_low m b w ht h
  · exact stepOn_high m b w ht h

end Go.Proofs.YtfkhljmiehdgmaaGreatDoor

/-
  The walk of package markup: has the end of an element come?
-/
namespace Go.Proofs.YtfkhljmiehdgmaaGreatDoor
open Go.RowKit

/-- 'ends': the byte that is one -/
theorem pgIndex_yes (b : UInt8) (w : World) (h : Pl.among b Pl.endBytes = true) :
    Calls Tryz.prog 130 #[.string ⟨#[9, 10, 12, 13, 32, 47, 62]⟩, .int .u8 b.toNat] w fun e w' => ∃ x : Int, 0 ≤ x ∧ e = .returned (.int .i64 x) ∧ w = w' :=
  pgIndexByte_yes b _ Pl.endBytes w rfl h
theorem pgIndex_no (b : UInt8) (w : World) (h : Pl.among b Pl.endBytes = false) :
    Calls Tryz.prog 130 #[.string ⟨#[9, 10, 12, 13, 32, 47, 62]⟩, .int .u8 b.toNat] w fun e w' => e = .returned (.int .i64 (-1)) ∧ w = w' :=
  pgIndexByte_no b _ Pl.endBytes w rfl h

set_option maxRecDepth 100000 in
set_option maxHeartbeats 6400000 in
theorem ends_any (x : Pl.Sx) (b : UInt8) (w : World) (hs : x.st.elem.length ≤ 1000) :
    Calls Tryz.prog 91 #[sxVal x, .int .u8 b.toNat] w fun e w' => e = .returned (.bool (x.st.ends b)) ∧ Below w.heap.size w w' := by
  have hz : (ByteArray.mk x.st.ending.toArray).size = x.st.ending.length := by simp [ByteArray.size]
  have hl := ending_len x.st
  have he := fun w => ending_any x w hs
  have HD : Hid (x.st.ends b = (decide (x.st.read = x.st.ending.length) && Pl.among b Pl.endBytes)) := rfl
  have hlo : x.st.ending.length ≤ 1002 := by omega
  generalize x.st.ending = E at hz hl he HD hlo
  clear hl
  have hst := sxAt_alloc w x 162
  unfold sxCells bs at hst
  unfold sxVal sxCells bs
  by_cases h1 : x.st.read = E.length
  · have h1' : ((x.st.read : Int) == (E.length : Int)) = true := by rw [beq_iff_eq]; omega
    have H1 : Hid (x.st.read = E.length) := h1
    clear h1
    by_cases h2 : Pl.among b Pl.endBytes = true
    · go_enter Tryz.func91, Tryz.ntmps91
      go_wp2_with fail
      first | go_region_with (first
        | (go_at_call 129; refine (he _).mono ?_; rintro e w1 ⟨rfl, hb1⟩; have q4 := (hst.drew.kept hb1 (by simp)).read; have hw : Below w.heap.size w w1 := (((Below.refl _ _).alloc (Nat.le_refl _) _).drew).trans (hb1.mono (by simp)))
        | (go_at_call 130; refine (pgIndex_yes b _ h2).mono ?_; rintro e w' ⟨x', hx', rfl, rfl⟩)) | fail
      all_goals
        go_wp2
        go_ret
        exact ⟨ret_bool (by rw [HD.out, h2, decide_eq_true H1.out]; rfl), hw⟩
    · have h2 := Bool.eq_false_iff.2 h2
      go_enter Tryz.func91, Tryz.ntmps91
      go_wp2_with fail
      first | go_region_with (first
        | (go_at_call 129; refine (he _).mono ?_; rintro e w1 ⟨rfl, hb1⟩; have q4 := (hst.drew.kept hb1 (by simp)).read; have hw : Below w.heap.size w w1 := (((Below.refl _ _).alloc (Nat.le_refl _) _).drew).trans (hb1.mono (by simp)))
        | (go_at_call 130; refine (pgIndex_no b _ h2).mono ?_; rintro e w' ⟨rfl, rfl⟩)) | fail
      all_goals
        go_wp2
        go_ret
        exact ⟨ret_bool (by rw [HD.out, h2]; rw [Bool.and_false]), hw⟩
  · have h1' : ((x.st.read : Int) == (E.length : Int)) = false := by rw [beq_eq_false_iff_ne]; omega
    have H1 : Hid (¬ x.st.read = E.length) := h1
    clear h1
    · go_enter Tryz.func91, Tryz.ntmps91
      go_wp2_with fail
      first | go_region_with (first
        | (go_at_call 129; refine (he _).mono ?_; rintro e w1 ⟨rfl, hb1⟩; have q4 := (hst.drew.kept hb1 (by simp)).read; have hw : Below w.heap.size w w1 := (((Below.refl _ _).alloc (Nat.le_refl _) _).drew).trans (hb1.mono (by simp)))
        | fail) | fail
      all_goals
        go_wp2
        go_ret
        exact ⟨ret_bool (by rw [HD.out, decide_eq_false H1.out]; rw [Bool.false_and]), hw⟩

end Go.Proofs.YtfkhljmiehdgmaaGreatDoor
