/-
  The walk of the program: the swap of the character that a text begins with.
-/
import Derived.Test.YtfkhljmiehdgmaaDoorWalkL
import Derived.Test.YtfkhljmiehdgmaaDoorPlainJ
import Derived.RegionTactic
import Derived.BigRegion
namespace Go.Proofs.YtfkhljmiehdgmaaDoor
open Go.RowKit

theorem hasPrefix_any (s p : ByteArray) (l : List UInt8) (w : World) (hp : p.data.toList = l) :
    Calls Tryd.prog 75 #[.string s, .string p] w fun e w' => e = .returned (.bool (l.isPrefixOf s.data.toList)) ∧ w = w' := by
  refine (Tryd.strings_HasPrefix s p w).mono ?_
  rintro e w' ⟨rfl, rfl⟩
  exact ⟨ret_bool (by rw [hp]; rfl), rfl⟩

set_option maxRecDepth 100000 in
set_option maxHeartbeats 6400000 in
theorem swapFor_any (kd : Int) (s : ByteArray) (w : World) (ht : Tabs w) :
    Calls Tryd.prog 54 #[.int .i64 kd, .string s] w fun e w' => e = .returned (.tuple #[.string ⟨(Pl.swapOf kd s.data.toList).1.toArray⟩, .string ⟨(Pl.swapOf kd s.data.toList).2.toArray⟩]) ∧ Below w.heap.size w w' := by
  generalize ho : Pl.swapOf kd s.data.toList = o
  have HO : Hid (Pl.swapOf kd s.data.toList = o) := ho
  clear ho
  have i0 : ∀ w, (Instr.index 97 (.agg swapCells) (.int .i64 0)).run Tryd.prog w = .ok (.agg #[.int .i64 1, .string ⟨#[38]⟩, .string ⟨#[38, 97, 109, 112, 59]⟩]) w := fun _ => by kernel_rfl
  have i1 : ∀ w, (Instr.index 97 (.agg swapCells) (.int .i64 1)).run Tryd.prog w = .ok (.agg #[.int .i64 1, .string ⟨#[60]⟩, .string ⟨#[38, 108, 116, 59]⟩]) w := fun _ => by kernel_rfl
  have i2 : ∀ w, (Instr.index 97 (.agg swapCells) (.int .i64 2)).run Tryd.prog w = .ok (.agg #[.int .i64 1, .string ⟨#[62]⟩, .string ⟨#[38, 103, 116, 59]⟩]) w := fun _ => by kernel_rfl
  have i3 : ∀ w, (Instr.index 97 (.agg swapCells) (.int .i64 3)).run Tryd.prog w = .ok (.agg #[.int .i64 1, .string ⟨#[34]⟩, .string ⟨#[38, 113, 117, 111, 116, 59]⟩]) w := fun _ => by kernel_rfl
  have i4 : ∀ w, (Instr.index 97 (.agg swapCells) (.int .i64 4)).run Tryd.prog w = .ok (.agg #[.int .i64 1, .string ⟨#[39]⟩, .string ⟨#[38, 35, 51, 57, 59]⟩]) w := fun _ => by kernel_rfl
  have i5 : ∀ w, (Instr.index 97 (.agg swapCells) (.int .i64 5)).run Tryd.prog w = .ok (.agg #[.int .i64 4, .string ⟨#[226, 128, 168]⟩, .string ⟨#[92, 117, 50, 48, 50, 56]⟩]) w := fun _ => by kernel_rfl
  have i6 : ∀ w, (Instr.index 97 (.agg swapCells) (.int .i64 6)).run Tryd.prog w = .ok (.agg #[.int .i64 4, .string ⟨#[226, 128, 169]⟩, .string ⟨#[92, 117, 50, 48, 50, 57]⟩]) w := fun _ => by kernel_rfl
  go_enter Tryd.func54, Tryd.ntmps54
  go_wp2_with (refine wpList_load_cells rfl 97 _ rfl 4 rfl swapCells _ ht.2.1 Tryd.underlying97 rfl (by kernel_rfl) ?_)
  go_loopw [7, 9] (fun _ i wr => ∃ k : Nat, k ≤ 7 ∧ i = .int .i64 k ∧ (Pl.swapTab.take k).find? (Pl.fits kd s.data.toList) = none ∧ Below w.heap.size w wr) (fun _ i _ => 7 - (intOf i).toNat)
  case atStart => exact ⟨0, by omega, rfl, rfl, Below.refl _ _⟩
  case round =>
    obtain ⟨k, hk, rfl, hn, hbw⟩ := hrel
    have HN : Hid ((Pl.swapTab.take k).find? (Pl.fits kd s.data.toList) = none) := hn
    clear hn
    have hz := hbw.size
    rcases (show k = 0 ∨ k = 1 ∨ k = 2 ∨ k = 3 ∨ k = 4 ∨ k = 5 ∨ k = 6 ∨ k = 7 by omega) with rfl | rfl | rfl | rfl | rfl | rfl | rfl | rfl
    · by_cases hq : ((1 : Int) == kd) = true
      · by_cases hp : List.isPrefixOf [38] s.data.toList = true
        · have HV : Hid (o = ([38], [38, 97, 109, 112, 59])) := by
            show _ = _; rw [← HO.out]; exact Pl.find_here kd _ 0 _ rfl HN.out (by show ((1 : Int) == kd && List.isPrefixOf [38] _) = true; rw [hq, hp]; rfl)
          go_wp2_with (go_at_call 75; refine (hasPrefix_any s _ [38] _ rfl).mono ?_; rintro e w' ⟨rfl, rfl⟩)
          go_region
          go_wp2
          go_ret2
          exact ⟨by rw [HV.out]; rfl, by repeat (first | exact hbw | exact hbw.alloc hz _ | apply Below.drew)⟩
        · have hp : List.isPrefixOf [38] s.data.toList = false := Bool.eq_false_iff.2 hp
          have HV : Hid ((Pl.swapTab.take (0 + 1)).find? (Pl.fits kd s.data.toList) = none) :=
            Pl.find_snoc kd _ 0 _ rfl HN.out (by show ((1 : Int) == kd && List.isPrefixOf [38] _) = false; rw [hq, hp]; rfl)
          go_wp2_with (go_at_call 75; refine (hasPrefix_any s _ [38] _ rfl).mono ?_; rintro e w' ⟨rfl, rfl⟩)
          go_roundw
          case rel => exact ⟨1, by omega, rfl, HV.out, by repeat (first | exact hbw | exact hbw.alloc hz _ | apply Below.drew)⟩
          case measure => simp [intOf]
      · have hq : ((1 : Int) == kd) = false := by simpa using hq
        have HV : Hid ((Pl.swapTab.take (0 + 1)).find? (Pl.fits kd s.data.toList) = none) :=
          Pl.find_snoc kd _ 0 _ rfl HN.out (by show ((1 : Int) == kd && _) = false; rw [hq]; rfl)
        go_wp2
        go_roundw
        case rel => exact ⟨1, by omega, rfl, HV.out, by repeat (first | exact hbw | exact hbw.alloc hz _ | apply Below.drew)⟩
        case measure => simp [intOf]
    · by_cases hq : ((1 : Int) == kd) = true
      · by_cases hp : List.isPrefixOf [60] s.data.toList = true
        · have HV : Hid (o = ([60], [38, 108, 116, 59])) := by
            show _ = _; rw [← HO.out]; exact Pl.find_here kd _ 1 _ rfl HN.out (by show ((1 : Int) == kd && List.isPrefixOf [60] _) = true; rw [hq, hp]; rfl)
          go_wp2_with (go_at_call 75; refine (hasPrefix_any s _ [60] _ rfl).mono ?_; rintro e w' ⟨rfl, rfl⟩)
          go_region
          go_wp2
          go_ret2
          exact ⟨by rw [HV.out]; rfl, by repeat (first | exact hbw | exact hbw.alloc hz _ | apply Below.drew)⟩
        · have hp : List.isPrefixOf [60] s.data.toList = false := Bool.eq_false_iff.2 hp
          have HV : Hid ((Pl.swapTab.take (1 + 1)).find? (Pl.fits kd s.data.toList) = none) :=
            Pl.find_snoc kd _ 1 _ rfl HN.out (by show ((1 : Int) == kd && List.isPrefixOf [60] _) = false; rw [hq, hp]; rfl)
          go_wp2_with (go_at_call 75; refine (hasPrefix_any s _ [60] _ rfl).mono ?_; rintro e w' ⟨rfl, rfl⟩)
          go_roundw
          case rel => exact ⟨2, by omega, rfl, HV.out, by repeat (first | exact hbw | exact hbw.alloc hz _ | apply Below.drew)⟩
          case measure => simp [intOf]
      · have hq : ((1 : Int) == kd) = false := by simpa using hq
        have HV : Hid ((Pl.swapTab.take (1 + 1)).find? (Pl.fits kd s.data.toList) = none) :=
          Pl.find_snoc kd _ 1 _ rfl HN.out (by show ((1 : Int) == kd && _) = false; rw [hq]; rfl)
        go_wp2
        go_roundw
        case rel => exact ⟨2, by omega, rfl, HV.out, by repeat (first | exact hbw | exact hbw.alloc hz _ | apply Below.drew)⟩
        case measure => simp [intOf]
    · by_cases hq : ((1 : Int) == kd) = true
      · by_cases hp : List.isPrefixOf [62] s.data.toList = true
        · have HV : Hid (o = ([62], [38, 103, 116, 59])) := by
            show _ = _; rw [← HO.out]; exact Pl.find_here kd _ 2 _ rfl HN.out (by show ((1 : Int) == kd && List.isPrefixOf [62] _) = true; rw [hq, hp]; rfl)
          go_wp2_with (go_at_call 75; refine (hasPrefix_any s _ [62] _ rfl).mono ?_; rintro e w' ⟨rfl, rfl⟩)
          go_region
          go_wp2
          go_ret2
          exact ⟨by rw [HV.out]; rfl, by repeat (first | exact hbw | exact hbw.alloc hz _ | apply Below.drew)⟩
        · have hp : List.isPrefixOf [62] s.data.toList = false := Bool.eq_false_iff.2 hp
          have HV : Hid ((Pl.swapTab.take (2 + 1)).find? (Pl.fits kd s.data.toList) = none) :=
            Pl.find_snoc kd _ 2 _ rfl HN.out (by show ((1 : Int) == kd && List.isPrefixOf [62] _) = false; rw [hq, hp]; rfl)
          go_wp2_with (go_at_call 75; refine (hasPrefix_any s _ [62] _ rfl).mono ?_; rintro e w' ⟨rfl, rfl⟩)
          go_roundw
          case rel => exact ⟨3, by omega, rfl, HV.out, by repeat (first | exact hbw | exact hbw.alloc hz _ | apply Below.drew)⟩
          case measure => simp [intOf]
      · have hq : ((1 : Int) == kd) = false := by simpa using hq
        have HV : Hid ((Pl.swapTab.take (2 + 1)).find? (Pl.fits kd s.data.toList) = none) :=
          Pl.find_snoc kd _ 2 _ rfl HN.out (by show ((1 : Int) == kd && _) = false; rw [hq]; rfl)
        go_wp2
        go_roundw
        case rel => exact ⟨3, by omega, rfl, HV.out, by repeat (first | exact hbw | exact hbw.alloc hz _ | apply Below.drew)⟩
        case measure => simp [intOf]
    · by_cases hq : ((1 : Int) == kd) = true
      · by_cases hp : List.isPrefixOf [34] s.data.toList = true
        · have HV : Hid (o = ([34], [38, 113, 117, 111, 116, 59])) := by
            show _ = _; rw [← HO.out]; exact Pl.find_here kd _ 3 _ rfl HN.out (by show ((1 : Int) == kd && List.isPrefixOf [34] _) = true; rw [hq, hp]; rfl)
          go_wp2_with (go_at_call 75; refine (hasPrefix_any s _ [34] _ rfl).mono ?_; rintro e w' ⟨rfl, rfl⟩)
          go_region
          go_wp2
          go_ret2
          exact ⟨by rw [HV.out]; rfl, by repeat (first | exact hbw | exact hbw.alloc hz _ | apply Below.drew)⟩
        · have hp : List.isPrefixOf [34] s.data.toList = false := Bool.eq_false_iff.2 hp
          have HV : Hid ((Pl.swapTab.take (3 + 1)).find? (Pl.fits kd s.data.toList) = none) :=
            Pl.find_snoc kd _ 3 _ rfl HN.out (by show ((1 : Int) == kd && List.isPrefixOf [34] _) = false; rw [hq, hp]; rfl)
          go_wp2_with (go_at_call 75; refine (hasPrefix_any s _ [34] _ rfl).mono ?_; rintro e w' ⟨rfl, rfl⟩)
          go_roundw
          case rel => exact ⟨4, by omega, rfl, HV.out, by repeat (first | exact hbw | exact hbw.alloc hz _ | apply Below.drew)⟩
          case measure => simp [intOf]
      · have hq : ((1 : Int) == kd) = false := by simpa using hq
        have HV : Hid ((Pl.swapTab.take (3 + 1)).find? (Pl.fits kd s.data.toList) = none) :=
          Pl.find_snoc kd _ 3 _ rfl HN.out (by show ((1 : Int) == kd && _) = false; rw [hq]; rfl)
        go_wp2
        go_roundw
        case rel => exact ⟨4, by omega, rfl, HV.out, by repeat (first | exact hbw | exact hbw.alloc hz _ | apply Below.drew)⟩
        case measure => simp [intOf]
    · by_cases hq : ((1 : Int) == kd) = true
      · by_cases hp : List.isPrefixOf [39] s.data.toList = true
        · have HV : Hid (o = ([39], [38, 35, 51, 57, 59])) := by
            show _ = _; rw [← HO.out]; exact Pl.find_here kd _ 4 _ rfl HN.out (by show ((1 : Int) == kd && List.isPrefixOf [39] _) = true; rw [hq, hp]; rfl)
          go_wp2_with (go_at_call 75; refine (hasPrefix_any s _ [39] _ rfl).mono ?_; rintro e w' ⟨rfl, rfl⟩)
          go_region
          go_wp2
          go_ret2
          exact ⟨by rw [HV.out]; rfl, by repeat (first | exact hbw | exact hbw.alloc hz _ | apply Below.drew)⟩
        · have hp : List.isPrefixOf [39] s.data.toList = false := Bool.eq_false_iff.2 hp
          have HV : Hid ((Pl.swapTab.take (4 + 1)).find? (Pl.fits kd s.data.toList) = none) :=
            Pl.find_snoc kd _ 4 _ rfl HN.out (by show ((1 : Int) == kd && List.isPrefixOf [39] _) = false; rw [hq, hp]; rfl)
          go_wp2_with (go_at_call 75; refine (hasPrefix_any s _ [39] _ rfl).mono ?_; rintro e w' ⟨rfl, rfl⟩)
          go_roundw
          case rel => exact ⟨5, by omega, rfl, HV.out, by repeat (first | exact hbw | exact hbw.alloc hz _ | apply Below.drew)⟩
          case measure => simp [intOf]
      · have hq : ((1 : Int) == kd) = false := by simpa using hq
        have HV : Hid ((Pl.swapTab.take (4 + 1)).find? (Pl.fits kd s.data.toList) = none) :=
          Pl.find_snoc kd _ 4 _ rfl HN.out (by show ((1 : Int) == kd && _) = false; rw [hq]; rfl)
        go_wp2
        go_roundw
        case rel => exact ⟨5, by omega, rfl, HV.out, by repeat (first | exact hbw | exact hbw.alloc hz _ | apply Below.drew)⟩
        case measure => simp [intOf]
    · by_cases hq : ((4 : Int) == kd) = true
      · by_cases hp : List.isPrefixOf [226, 128, 168] s.data.toList = true
        · have HV : Hid (o = ([226, 128, 168], [92, 117, 50, 48, 50, 56])) := by
            show _ = _; rw [← HO.out]; exact Pl.find_here kd _ 5 _ rfl HN.out (by show ((4 : Int) == kd && List.isPrefixOf [226, 128, 168] _) = true; rw [hq, hp]; rfl)
          go_wp2_with (go_at_call 75; refine (hasPrefix_any s _ [226, 128, 168] _ rfl).mono ?_; rintro e w' ⟨rfl, rfl⟩)
          go_region
          go_wp2
          go_ret2
          exact ⟨by rw [HV.out]; rfl, by repeat (first | exact hbw | exact hbw.alloc hz _ | apply Below.drew)⟩
        · have hp : List.isPrefixOf [226, 128, 168] s.data.toList = false := Bool.eq_false_iff.2 hp
          have HV : Hid ((Pl.swapTab.take (5 + 1)).find? (Pl.fits kd s.data.toList) = none) :=
            Pl.find_snoc kd _ 5 _ rfl HN.out (by show ((4 : Int) == kd && List.isPrefixOf [226, 128, 168] _) = false; rw [hq, hp]; rfl)
          go_wp2_with (go_at_call 75; refine (hasPrefix_any s _ [226, 128, 168] _ rfl).mono ?_; rintro e w' ⟨rfl, rfl⟩)
          go_roundw
          case rel => exact ⟨6, by omega, rfl, HV.out, by repeat (first | exact hbw | exact hbw.alloc hz _ | apply Below.drew)⟩
          case measure => simp [intOf]
      · have hq : ((4 : Int) == kd) = false := by simpa using hq
        have HV : Hid ((Pl.swapTab.take (5 + 1)).find? (Pl.fits kd s.data.toList) = none) :=
          Pl.find_snoc kd _ 5 _ rfl HN.out (by show ((4 : Int) == kd && _) = false; rw [hq]; rfl)
        go_wp2
        go_roundw
        case rel => exact ⟨6, by omega, rfl, HV.out, by repeat (first | exact hbw | exact hbw.alloc hz _ | apply Below.drew)⟩
        case measure => simp [intOf]
    · by_cases hq : ((4 : Int) == kd) = true
      · by_cases hp : List.isPrefixOf [226, 128, 169] s.data.toList = true
        · have HV : Hid (o = ([226, 128, 169], [92, 117, 50, 48, 50, 57])) := by
            show _ = _; rw [← HO.out]; exact Pl.find_here kd _ 6 _ rfl HN.out (by show ((4 : Int) == kd && List.isPrefixOf [226, 128, 169] _) = true; rw [hq, hp]; rfl)
          go_wp2_with (go_at_call 75; refine (hasPrefix_any s _ [226, 128, 169] _ rfl).mono ?_; rintro e w' ⟨rfl, rfl⟩)
          go_region
          go_wp2
          go_ret2
          exact ⟨by rw [HV.out]; rfl, by repeat (first | exact hbw | exact hbw.alloc hz _ | apply Below.drew)⟩
        · have hp : List.isPrefixOf [226, 128, 169] s.data.toList = false := Bool.eq_false_iff.2 hp
          have HV : Hid ((Pl.swapTab.take (6 + 1)).find? (Pl.fits kd s.data.toList) = none) :=
            Pl.find_snoc kd _ 6 _ rfl HN.out (by show ((4 : Int) == kd && List.isPrefixOf [226, 128, 169] _) = false; rw [hq, hp]; rfl)
          go_wp2_with (go_at_call 75; refine (hasPrefix_any s _ [226, 128, 169] _ rfl).mono ?_; rintro e w' ⟨rfl, rfl⟩)
          go_roundw
          case rel => exact ⟨7, by omega, rfl, HV.out, by repeat (first | exact hbw | exact hbw.alloc hz _ | apply Below.drew)⟩
          case measure => simp [intOf]
      · have hq : ((4 : Int) == kd) = false := by simpa using hq
        have HV : Hid ((Pl.swapTab.take (6 + 1)).find? (Pl.fits kd s.data.toList) = none) :=
          Pl.find_snoc kd _ 6 _ rfl HN.out (by show ((4 : Int) == kd && _) = false; rw [hq]; rfl)
        go_wp2
        go_roundw
        case rel => exact ⟨7, by omega, rfl, HV.out, by repeat (first | exact hbw | exact hbw.alloc hz _ | apply Below.drew)⟩
        case measure => simp [intOf]
    · have HV : Hid (o = ([], [])) := by
        show _ = _; rw [← HO.out]; exact Pl.find_over kd _ HN.out
      go_wp2
      go_ret2
      exact ⟨by rw [HV.out]; rfl, hbw⟩

end Go.Proofs.YtfkhljmiehdgmaaDoor
