/-
  The walk of cmp.Or at the program's modes.
-/
import Derived.Test.YtbagkoemaalnmaaDoorPgWS
namespace Go.Proofs.YtbagkoemaalnmaaDoor
open Go.RowKit

theorem or3_eq (a b c : Nat) : Pl.or3 a b c = if a ≠ 0 then a else if b ≠ 0 then b else c := rfl
set_option maxRecDepth 100000 in
set_option maxHeartbeats 3200000 in
theorem or_any (a b c : Nat) (g : Nat) (w : World) (h0 : w.cell? ⟨g, 0, none⟩ = some (.int .u8 (a : Int))) (h1 : w.cell? ⟨g, 1, none⟩ = some (.int .u8 (b : Int))) (h2 : w.cell? ⟨g, 2, none⟩ = some (.int .u8 (c : Int))) :
    Calls Tryd.prog 68 #[.slice (some ⟨g, 0, none⟩) 3 3] w fun e w' => e = .returned (.int .u8 (Pl.or3 a b c : Nat)) ∧ w = w' := by
  generalize hor : Pl.or3 a b c = r
  have HO : Hid (Pl.or3 a b c = r) := hor
  clear hor
  go_enter Tryd.func68, Tryd.ntmps68
  go_wp2
  go_loop [5, 8] (fun _ i => ∃ k : Nat, k ≤ 3 ∧ i = .int .i64 k ∧ (1 ≤ k → a = 0) ∧ (2 ≤ k → b = 0) ∧ (3 ≤ k → c = 0)) (fun _ i => 3 - (intOf i).toNat)
  case atStart => exact ⟨0, by omega, rfl, by omega, by omega, by omega⟩
  case round =>
    obtain ⟨k, hk, rfl, g1, g2, g3⟩ := hrel
    have H1 : Hid (1 ≤ k → a = 0) := g1
    have H2 : Hid (2 ≤ k → b = 0) := g2
    have H3 : Hid (3 ≤ k → c = 0) := g3
    clear g1 g2 g3
    rcases (show k = 0 ∨ k = 1 ∨ k = 2 ∨ k = 3 by omega) with rfl | rfl | rfl | rfl
    · by_cases hq : a = 0
      · have HQ : Hid (a = 0) := hq
        have hq' : ((a : Int) != 0) = false := by rw [hq]; rfl
        clear hq
        go_wp2
        go_round
        case rel => exact ⟨1, by omega, rfl, fun _ => HQ.out, by omega, by omega⟩
        case measure => simp [intOf]
      · have q0 : a ≠ 0 := hq
        have HV : Hid (r = a) := by show _ = _; rw [← HO.out, or3_eq, if_pos q0]
        have hq' : ((a : Int) != 0) = true := by rw [bne_iff_ne]; omega
        clear hq q0
        go_wp2
        go_ret
        exact ⟨ret_int (by rw [HV.out]), rfl⟩
    · by_cases hq : b = 0
      · have HQ : Hid (b = 0) := hq
        have hq' : ((b : Int) != 0) = false := by rw [hq]; rfl
        clear hq
        go_wp2
        go_round
        case rel => exact ⟨2, by omega, rfl, fun _ => H1.out (by omega), fun _ => HQ.out, by omega⟩
        case measure => simp [intOf]
      · have q0 : b ≠ 0 := hq
        have HV : Hid (r = b) := by show _ = _; rw [← HO.out, or3_eq, if_neg (by simp [H1.out (by omega)]), if_pos q0]
        have hq' : ((b : Int) != 0) = true := by rw [bne_iff_ne]; omega
        clear hq q0
        go_wp2
        go_ret
        exact ⟨ret_int (by rw [HV.out]), rfl⟩
    · by_cases hq : c = 0
      · have HQ : Hid (c = 0) := hq
        have hq' : ((c : Int) != 0) = false := by rw [hq]; rfl
        clear hq
        go_wp2
        go_round
        case rel => exact ⟨3, by omega, rfl, fun _ => H1.out (by omega), fun _ => H2.out (by omega), fun _ => HQ.out⟩
        case measure => simp [intOf]
      · have q0 : c ≠ 0 := hq
        have HV : Hid (r = c) := by show _ = _; rw [← HO.out, or3_eq, if_neg (by simp [H1.out (by omega)]), if_neg (by simp [H2.out (by omega)])]
        have hq' : ((c : Int) != 0) = true := by rw [bne_iff_ne]; omega
        clear hq q0
        go_wp2
        go_ret
        exact ⟨ret_int (by rw [HV.out]), rfl⟩
    · have HV : Hid (r = 0) := by show _ = _; rw [← HO.out, or3_eq, if_neg (by simp [H1.out (by omega)]), if_neg (by simp [H2.out (by omega)])]; exact H3.out (by omega)
      go_wp2
      go_ret
      exact ⟨ret_int (by rw [HV.out]; rfl), rfl⟩

theorem or_at (a b c g : Nat) (w : World) (t : TypeId) (hg : w.heap.size = g) :
    Calls Tryd.prog 68 #[.slice (some ⟨g, 0, none⟩) 3 3] (w.alloc (.cells #[.int .u8 (a : Int), .int .u8 (b : Int), .int .u8 (c : Int)] t)) fun e w' => e = .returned (.int .u8 (Pl.or3 a b c : Nat)) ∧ w.alloc (.cells #[.int .u8 (a : Int), .int .u8 (b : Int), .int .u8 (c : Int)] t) = w' := by
  subst hg
  have h := cells_at_block (heap_alloc_new w (.cells #[.int .u8 (a : Int), .int .u8 (b : Int), .int .u8 (c : Int)] t))
  exact or_any a b c _ _ (h 0 _ rfl) (h 1 _ rfl) (h 2 _ rfl)

theorem or_drew (a b c g : Nat) (w : World) (t : TypeId) (hg : w.heap.size = g) :
    Calls Tryd.prog 68 #[.slice (some ⟨g, 0, none⟩) 3 3] (w.alloc (.cells #[.int .u8 (a : Int), .int .u8 (b : Int), .int .u8 (c : Int)] t)).drew fun e w' => e = .returned (.int .u8 (Pl.or3 a b c : Nat)) ∧ (w.alloc (.cells #[.int .u8 (a : Int), .int .u8 (b : Int), .int .u8 (c : Int)] t)).drew = w' := by
  subst hg
  have h := cells_at_block (heap_alloc_new w (.cells #[.int .u8 (a : Int), .int .u8 (b : Int), .int .u8 (c : Int)] t))
  exact or_any a b c _ _ (h 0 _ rfl) (h 1 _ rfl) (h 2 _ rfl)

end Go.Proofs.YtbagkoemaalnmaaDoor
