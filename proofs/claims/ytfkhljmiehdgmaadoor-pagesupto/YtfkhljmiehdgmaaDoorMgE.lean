/-
  Several texts laid together: each opens with its own remark.
-/
import Derived.Test.YtfkhljmiehdgmaaDoorMgD
import Derived.Test.YtfkhljmiehdgmaaDoorPgTabs
import Derived.Test.YtfkhljmiehdgmaaDoorMgC

/-
  The walks of the document's answer on pages: its table.
-/
namespace Go.Proofs.YtfkhljmiehdgmaaDoor
open Go.RowKit

def rowCells (l : List (List UInt8 × Int)) : List Value := l.flatMap fun r => [.string ⟨r.1.toArray⟩, .int .i64 r.2]
/-- rows that lie behind a slice -/
def RowsAt (v : Value) (w : World) (l : List (List UInt8 × Int)) : Prop :=
  (l = [] ∧ v = .slice none 0 0) ∨ ∃ g, v = .slice (some ⟨g, 0, none⟩) l.length l.length ∧ ∀ (k : Nat) (r : List UInt8 × Int), l[k]? = some r → w.cell? ⟨g, k * 2, none⟩ = some (.string ⟨r.1.toArray⟩) ∧ w.cell? ⟨g, k * 2 + 1, none⟩ = some (.int .i64 r.2)
theorem rowsAt_new (w : World) (l : List (List UInt8 × Int)) (cs : Array Value) (t : TypeId) (g n : Nat) (hg : w.heap.size = g) (hn : l.length = n) (hc : cs.toList = rowCells l) : RowsAt (.slice (some ⟨g, 0, none⟩) n n) (w.alloc (.cells cs t)) l := by
  subst hg
  subst hn
  refine .inr ⟨_, rfl, fun k r hk => ?_⟩
  obtain ⟨a, b⟩ := flat2 (fun r : List UInt8 × Int => Value.string ⟨r.1.toArray⟩) (fun r => .int .i64 r.2) l k r hk
  have h := cells_at_block (heap_alloc_new w (.cells cs t))
  rw [hc] at h
  rw [Nat.mul_comm k 2]
  exact ⟨h _ _ a, h _ _ b⟩

set_option maxRecDepth 100000 in
set_option maxHeartbeats 1600000 in
theorem pageRows_1 (w : World) :
    Calls Tryd.prog 98 #[.int .i64 1] w fun e w' => ∃ v, e = .returned v ∧ RowsAt v w' (Pl.pageRows 1) ∧ Below w.heap.size w w' := by
  go_enter Tryd.func98, Tryd.ntmps98
  go_wp2
  go_ret
  refine ⟨_, rfl, ?_, (Below.refl _ _).alloc (Nat.le_refl _) _⟩
  exact rowsAt_new w (Pl.pageRows 1) _ _ _ _ rfl rfl rfl

set_option maxRecDepth 100000 in
set_option maxHeartbeats 1600000 in
theorem pageRows_2 (w : World) :
    Calls Tryd.prog 98 #[.int .i64 2] w fun e w' => ∃ v, e = .returned v ∧ RowsAt v w' (Pl.pageRows 2) ∧ Below w.heap.size w w' := by
  go_enter Tryd.func98, Tryd.ntmps98
  go_wp2
  go_ret
  refine ⟨_, rfl, ?_, (Below.refl _ _).alloc (Nat.le_refl _) _⟩
  exact rowsAt_new w (Pl.pageRows 2) _ _ _ _ rfl rfl rfl

set_option maxRecDepth 100000 in
set_option maxHeartbeats 1600000 in
theorem pageRows_3 (w : World) :
    Calls Tryd.prog 98 #[.int .i64 3] w fun e w' => ∃ v, e = .returned v ∧ RowsAt v w' (Pl.pageRows 3) ∧ Below w.heap.size w w' := by
  go_enter Tryd.func98, Tryd.ntmps98
  go_wp2
  go_ret
  refine ⟨_, rfl, ?_, (Below.refl _ _).alloc (Nat.le_refl _) _⟩
  exact rowsAt_new w (Pl.pageRows 3) _ _ _ _ rfl rfl rfl

set_option maxRecDepth 100000 in
set_option maxHeartbeats 1600000 in
theorem pageRows_4 (w : World) :
    Calls Tryd.prog 98 #[.int .i64 4] w fun e w' => ∃ v, e = .returned v ∧ RowsAt v w' (Pl.pageRows 4) ∧ Below w.heap.size w w' := by
  go_enter Tryd.func98, Tryd.ntmps98
  go_wp2
  go_ret
  refine ⟨_, rfl, ?_, (Below.refl _ _).alloc (Nat.le_refl _) _⟩
  exact rowsAt_new w (Pl.pageRows 4) _ _ _ _ rfl rfl rfl

set_option maxRecDepth 100000 in
set_option maxHeartbeats 1600000 in
theorem pageRows_5 (w : World) :
    Calls Tryd.prog 98 #[.int .i64 5] w fun e w' => ∃ v, e = .returned v ∧ RowsAt v w' (Pl.pageRows 5) ∧ Below w.heap.size w w' := by
  go_enter Tryd.func98, Tryd.ntmps98
  go_wp2
  go_ret
  refine ⟨_, rfl, ?_, (Below.refl _ _).alloc (Nat.le_refl _) _⟩
  exact rowsAt_new w (Pl.pageRows 5) _ _ _ _ rfl rfl rfl

set_option maxRecDepth 100000 in
set_option maxHeartbeats 1600000 in
theorem pageRows_6 (w : World) :
    Calls Tryd.prog 98 #[.int .i64 6] w fun e w' => ∃ v, e = .returned v ∧ RowsAt v w' (Pl.pageRows 6) ∧ Below w.heap.size w w' := by
  go_enter Tryd.func98, Tryd.ntmps98
  go_wp2
  go_ret
  refine ⟨_, rfl, ?_, (Below.refl _ _).alloc (Nat.le_refl _) _⟩
  exact rowsAt_new w (Pl.pageRows 6) _ _ _ _ rfl rfl rfl

set_option maxRecDepth 100000 in
set_option maxHeartbeats 1600000 in
theorem pageRows_7 (w : World) :
    Calls Tryd.prog 98 #[.int .i64 7] w fun e w' => ∃ v, e = .returned v ∧ RowsAt v w' (Pl.pageRows 7) ∧ Below w.heap.size w w' := by
  go_enter Tryd.func98, Tryd.ntmps98
  go_wp2
  go_ret
  refine ⟨_, rfl, ?_, (Below.refl _ _).alloc (Nat.le_refl _) _⟩
  exact rowsAt_new w (Pl.pageRows 7) _ _ _ _ rfl rfl rfl

set_option maxRecDepth 100000 in
set_option maxHeartbeats 1600000 in
theorem pageRows_8 (w : World) :
    Calls Tryd.prog 98 #[.int .i64 8] w fun e w' => ∃ v, e = .returned v ∧ RowsAt v w' (Pl.pageRows 8) ∧ Below w.heap.size w w' := by
  go_enter Tryd.func98, Tryd.ntmps98
  go_wp2
  go_ret
  refine ⟨_, rfl, ?_, (Below.refl _ _).alloc (Nat.le_refl _) _⟩
  exact rowsAt_new w (Pl.pageRows 8) _ _ _ _ rfl rfl rfl

set_option maxRecDepth 100000 in
set_option maxHeartbeats 1600000 in
theorem pageRows_9 (w : World) :
    Calls Tryd.prog 98 #[.int .i64 9] w fun e w' => ∃ v, e = .returned v ∧ RowsAt v w' (Pl.pageRows 9) ∧ Below w.heap.size w w' := by
  go_enter Tryd.func98, Tryd.ntmps98
  go_wp2
  go_ret
  refine ⟨_, rfl, ?_, (Below.refl _ _).alloc (Nat.le_refl _) _⟩
  exact rowsAt_new w (Pl.pageRows 9) _ _ _ _ rfl rfl rfl

set_option maxRecDepth 100000 in
set_option maxHeartbeats 1600000 in
theorem pageRows_10 (w : World) :
    Calls Tryd.prog 98 #[.int .i64 10] w fun e w' => ∃ v, e = .returned v ∧ RowsAt v w' (Pl.pageRows 10) ∧ Below w.heap.size w w' := by
  go_enter Tryd.func98, Tryd.ntmps98
  go_wp2
  go_ret
  refine ⟨_, rfl, ?_, (Below.refl _ _).alloc (Nat.le_refl _) _⟩
  exact rowsAt_new w (Pl.pageRows 10) _ _ _ _ rfl rfl rfl

set_option maxRecDepth 100000 in
set_option maxHeartbeats 1600000 in
theorem pageRows_11 (w : World) :
    Calls Tryd.prog 98 #[.int .i64 11] w fun e w' => ∃ v, e = .returned v ∧ RowsAt v w' (Pl.pageRows 11) ∧ Below w.heap.size w w' := by
  go_enter Tryd.func98, Tryd.ntmps98
  go_wp2
  go_ret
  refine ⟨_, rfl, ?_, (Below.refl _ _).alloc (Nat.le_refl _) _⟩
  exact rowsAt_new w (Pl.pageRows 11) _ _ _ _ rfl rfl rfl

set_option maxRecDepth 100000 in
set_option maxHeartbeats 1600000 in
theorem pageRows_12 (w : World) :
    Calls Tryd.prog 98 #[.int .i64 12] w fun e w' => ∃ v, e = .returned v ∧ RowsAt v w' (Pl.pageRows 12) ∧ Below w.heap.size w w' := by
  go_enter Tryd.func98, Tryd.ntmps98
  go_wp2
  go_ret
  refine ⟨_, rfl, ?_, (Below.refl _ _).alloc (Nat.le_refl _) _⟩
  exact rowsAt_new w (Pl.pageRows 12) _ _ _ _ rfl rfl rfl

set_option maxRecDepth 100000 in
set_option maxHeartbeats 1600000 in
theorem pageRows_13 (w : World) :
    Calls Tryd.prog 98 #[.int .i64 13] w fun e w' => ∃ v, e = .returned v ∧ RowsAt v w' (Pl.pageRows 13) ∧ Below w.heap.size w w' := by
  go_enter Tryd.func98, Tryd.ntmps98
  go_wp2
  go_ret
  refine ⟨_, rfl, ?_, (Below.refl _ _).alloc (Nat.le_refl _) _⟩
  exact rowsAt_new w (Pl.pageRows 13) _ _ _ _ rfl rfl rfl

set_option maxRecDepth 100000 in
set_option maxHeartbeats 1600000 in
theorem pageRows_14 (w : World) :
    Calls Tryd.prog 98 #[.int .i64 14] w fun e w' => ∃ v, e = .returned v ∧ RowsAt v w' (Pl.pageRows 14) ∧ Below w.heap.size w w' := by
  go_enter Tryd.func98, Tryd.ntmps98
  go_wp2
  go_ret
  refine ⟨_, rfl, ?_, (Below.refl _ _).alloc (Nat.le_refl _) _⟩
  exact rowsAt_new w (Pl.pageRows 14) _ _ _ _ rfl rfl rfl

set_option maxRecDepth 100000 in
set_option maxHeartbeats 1600000 in
theorem pageRows_15 (w : World) :
    Calls Tryd.prog 98 #[.int .i64 15] w fun e w' => ∃ v, e = .returned v ∧ RowsAt v w' (Pl.pageRows 15) ∧ Below w.heap.size w w' := by
  go_enter Tryd.func98, Tryd.ntmps98
  go_wp2
  go_ret
  refine ⟨_, rfl, ?_, (Below.refl _ _).alloc (Nat.le_refl _) _⟩
  exact rowsAt_new w (Pl.pageRows 15) _ _ _ _ rfl rfl rfl

set_option maxRecDepth 100000 in
set_option maxHeartbeats 1600000 in
theorem pageRows_16 (w : World) :
    Calls Tryd.prog 98 #[.int .i64 16] w fun e w' => ∃ v, e = .returned v ∧ RowsAt v w' (Pl.pageRows 16) ∧ Below w.heap.size w w' := by
  go_enter Tryd.func98, Tryd.ntmps98
  go_wp2
  go_ret
  refine ⟨_, rfl, ?_, (Below.refl _ _).alloc (Nat.le_refl _) _⟩
  exact rowsAt_new w (Pl.pageRows 16) _ _ _ _ rfl rfl rfl

set_option maxRecDepth 100000 in
set_option maxHeartbeats 1600000 in
theorem pageRows_17 (w : World) :
    Calls Tryd.prog 98 #[.int .i64 17] w fun e w' => ∃ v, e = .returned v ∧ RowsAt v w' (Pl.pageRows 17) ∧ Below w.heap.size w w' := by
  go_enter Tryd.func98, Tryd.ntmps98
  go_wp2
  go_ret
  refine ⟨_, rfl, ?_, (Below.refl _ _).alloc (Nat.le_refl _) _⟩
  exact rowsAt_new w (Pl.pageRows 17) _ _ _ _ rfl rfl rfl

set_option maxRecDepth 100000 in
set_option maxHeartbeats 1600000 in
theorem pageRows_18 (w : World) :
    Calls Tryd.prog 98 #[.int .i64 18] w fun e w' => ∃ v, e = .returned v ∧ RowsAt v w' (Pl.pageRows 18) ∧ Below w.heap.size w w' := by
  go_enter Tryd.func98, Tryd.ntmps98
  go_wp2
  go_ret
  refine ⟨_, rfl, ?_, (Below.refl _ _).alloc (Nat.le_refl _) _⟩
  exact rowsAt_new w (Pl.pageRows 18) _ _ _ _ rfl rfl rfl

set_option maxRecDepth 100000 in
set_option maxHeartbeats 1600000 in
theorem innerRows_20 (w : World) :
    Calls Tryd.prog 99 #[.int .i64 20] w fun e w' => ∃ v, e = .returned v ∧ RowsAt v w' (Pl.innerRows 20) ∧ Below w.heap.size w w' := by
  go_enter Tryd.func99, Tryd.ntmps99
  go_wp2
  go_ret
  refine ⟨_, rfl, ?_, (Below.refl _ _).alloc (Nat.le_refl _) _⟩
  exact rowsAt_new w (Pl.innerRows 20) _ _ _ _ rfl rfl rfl

set_option maxRecDepth 100000 in
set_option maxHeartbeats 1600000 in
theorem innerRows_21 (w : World) :
    Calls Tryd.prog 99 #[.int .i64 21] w fun e w' => ∃ v, e = .returned v ∧ RowsAt v w' (Pl.innerRows 21) ∧ Below w.heap.size w w' := by
  go_enter Tryd.func99, Tryd.ntmps99
  go_wp2
  go_ret
  refine ⟨_, rfl, ?_, (Below.refl _ _).alloc (Nat.le_refl _) _⟩
  exact rowsAt_new w (Pl.innerRows 21) _ _ _ _ rfl rfl rfl

set_option maxRecDepth 100000 in
set_option maxHeartbeats 1600000 in
theorem innerRows_22 (w : World) :
    Calls Tryd.prog 99 #[.int .i64 22] w fun e w' => ∃ v, e = .returned v ∧ RowsAt v w' (Pl.innerRows 22) ∧ Below w.heap.size w w' := by
  go_enter Tryd.func99, Tryd.ntmps99
  go_wp2
  go_ret
  refine ⟨_, rfl, ?_, (Below.refl _ _).alloc (Nat.le_refl _) _⟩
  exact rowsAt_new w (Pl.innerRows 22) _ _ _ _ rfl rfl rfl

set_option maxRecDepth 100000 in
set_option maxHeartbeats 1600000 in
theorem innerRows_23 (w : World) :
    Calls Tryd.prog 99 #[.int .i64 23] w fun e w' => ∃ v, e = .returned v ∧ RowsAt v w' (Pl.innerRows 23) ∧ Below w.heap.size w w' := by
  go_enter Tryd.func99, Tryd.ntmps99
  go_wp2
  go_ret
  refine ⟨_, rfl, ?_, (Below.refl _ _).alloc (Nat.le_refl _) _⟩
  exact rowsAt_new w (Pl.innerRows 23) _ _ _ _ rfl rfl rfl

set_option maxRecDepth 100000 in
set_option maxHeartbeats 1600000 in
theorem innerRows_24 (w : World) :
    Calls Tryd.prog 99 #[.int .i64 24] w fun e w' => ∃ v, e = .returned v ∧ RowsAt v w' (Pl.innerRows 24) ∧ Below w.heap.size w w' := by
  go_enter Tryd.func99, Tryd.ntmps99
  go_wp2
  go_ret
  refine ⟨_, rfl, ?_, (Below.refl _ _).alloc (Nat.le_refl _) _⟩
  exact rowsAt_new w (Pl.innerRows 24) _ _ _ _ rfl rfl rfl

set_option maxRecDepth 100000 in
set_option maxHeartbeats 1600000 in
theorem innerRows_25 (w : World) :
    Calls Tryd.prog 99 #[.int .i64 25] w fun e w' => ∃ v, e = .returned v ∧ RowsAt v w' (Pl.innerRows 25) ∧ Below w.heap.size w w' := by
  go_enter Tryd.func99, Tryd.ntmps99
  go_wp2
  go_ret
  refine ⟨_, rfl, ?_, (Below.refl _ _).alloc (Nat.le_refl _) _⟩
  exact rowsAt_new w (Pl.innerRows 25) _ _ _ _ rfl rfl rfl

set_option maxRecDepth 100000 in
set_option maxHeartbeats 1600000 in
theorem innerRows_26 (w : World) :
    Calls Tryd.prog 99 #[.int .i64 26] w fun e w' => ∃ v, e = .returned v ∧ RowsAt v w' (Pl.innerRows 26) ∧ Below w.heap.size w w' := by
  go_enter Tryd.func99, Tryd.ntmps99
  go_wp2
  go_ret
  refine ⟨_, rfl, ?_, (Below.refl _ _).alloc (Nat.le_refl _) _⟩
  exact rowsAt_new w (Pl.innerRows 26) _ _ _ _ rfl rfl rfl

set_option maxRecDepth 100000 in
set_option maxHeartbeats 1600000 in
theorem innerRows_27 (w : World) :
    Calls Tryd.prog 99 #[.int .i64 27] w fun e w' => ∃ v, e = .returned v ∧ RowsAt v w' (Pl.innerRows 27) ∧ Below w.heap.size w w' := by
  go_enter Tryd.func99, Tryd.ntmps99
  go_wp2
  go_ret
  refine ⟨_, rfl, ?_, (Below.refl _ _).alloc (Nat.le_refl _) _⟩
  exact rowsAt_new w (Pl.innerRows 27) _ _ _ _ rfl rfl rfl

set_option maxRecDepth 100000 in
set_option maxHeartbeats 1600000 in
theorem innerRows_28 (w : World) :
    Calls Tryd.prog 99 #[.int .i64 28] w fun e w' => ∃ v, e = .returned v ∧ RowsAt v w' (Pl.innerRows 28) ∧ Below w.heap.size w w' := by
  go_enter Tryd.func99, Tryd.ntmps99
  go_wp2
  go_ret
  refine ⟨_, rfl, ?_, (Below.refl _ _).alloc (Nat.le_refl _) _⟩
  exact rowsAt_new w (Pl.innerRows 28) _ _ _ _ rfl rfl rfl

set_option maxRecDepth 100000 in
set_option maxHeartbeats 1600000 in
theorem innerRows_29 (w : World) :
    Calls Tryd.prog 99 #[.int .i64 29] w fun e w' => ∃ v, e = .returned v ∧ RowsAt v w' (Pl.innerRows 29) ∧ Below w.heap.size w w' := by
  go_enter Tryd.func99, Tryd.ntmps99
  go_wp2
  go_ret
  refine ⟨_, rfl, ?_, (Below.refl _ _).alloc (Nat.le_refl _) _⟩
  exact rowsAt_new w (Pl.innerRows 29) _ _ _ _ rfl rfl rfl

set_option maxRecDepth 100000 in
set_option maxHeartbeats 1600000 in
theorem innerRows_30 (w : World) :
    Calls Tryd.prog 99 #[.int .i64 30] w fun e w' => ∃ v, e = .returned v ∧ RowsAt v w' (Pl.innerRows 30) ∧ Below w.heap.size w w' := by
  go_enter Tryd.func99, Tryd.ntmps99
  go_wp2
  go_ret
  refine ⟨_, rfl, ?_, (Below.refl _ _).alloc (Nat.le_refl _) _⟩
  exact rowsAt_new w (Pl.innerRows 30) _ _ _ _ rfl rfl rfl

set_option maxRecDepth 100000 in
set_option maxHeartbeats 1600000 in
theorem innerRows_31 (w : World) :
    Calls Tryd.prog 99 #[.int .i64 31] w fun e w' => ∃ v, e = .returned v ∧ RowsAt v w' (Pl.innerRows 31) ∧ Below w.heap.size w w' := by
  go_enter Tryd.func99, Tryd.ntmps99
  go_wp2
  go_ret
  refine ⟨_, rfl, ?_, (Below.refl _ _).alloc (Nat.le_refl _) _⟩
  exact rowsAt_new w (Pl.innerRows 31) _ _ _ _ rfl rfl rfl

set_option maxRecDepth 100000 in
set_option maxHeartbeats 1600000 in
theorem innerRows_32 (w : World) :
    Calls Tryd.prog 99 #[.int .i64 32] w fun e w' => ∃ v, e = .returned v ∧ RowsAt v w' (Pl.innerRows 32) ∧ Below w.heap.size w w' := by
  go_enter Tryd.func99, Tryd.ntmps99
  go_wp2
  go_ret
  refine ⟨_, rfl, ?_, (Below.refl _ _).alloc (Nat.le_refl _) _⟩
  exact rowsAt_new w (Pl.innerRows 32) _ _ _ _ rfl rfl rfl

set_option maxRecDepth 100000 in
set_option maxHeartbeats 1600000 in
theorem innerRows_33 (w : World) :
    Calls Tryd.prog 99 #[.int .i64 33] w fun e w' => ∃ v, e = .returned v ∧ RowsAt v w' (Pl.innerRows 33) ∧ Below w.heap.size w w' := by
  go_enter Tryd.func99, Tryd.ntmps99
  go_wp2
  go_ret
  refine ⟨_, rfl, ?_, (Below.refl _ _).alloc (Nat.le_refl _) _⟩
  exact rowsAt_new w (Pl.innerRows 33) _ _ _ _ rfl rfl rfl

set_option maxRecDepth 100000 in
set_option maxHeartbeats 1600000 in
theorem pageRows_any (m : Nat) (hm : m ≤ 33) (w : World) :
    Calls Tryd.prog 98 #[.int .i64 m] w fun e w' => ∃ v, e = .returned v ∧ RowsAt v w' (Pl.pageRows m) ∧ Below w.heap.size w w' := by
  by_cases h0 : 1 ≤ m ∧ m ≤ 18
  · rcases (show m = 1 ∨ m = 2 ∨ m = 3 ∨ m = 4 ∨ m = 5 ∨ m = 6 ∨ m = 7 ∨ m = 8 ∨ m = 9 ∨ m = 10 ∨ m = 11 ∨ m = 12 ∨ m = 13 ∨ m = 14 ∨ m = 15 ∨ m = 16 ∨ m = 17 ∨ m = 18 by omega) with rfl | rfl | rfl | rfl | rfl | rfl | rfl | rfl | rfl | rfl | rfl | rfl | rfl | rfl | rfl | rfl | rfl | rfl
    · exact pageRows_1 w
    · exact pageRows_2 w
    · exact pageRows_3 w
    · exact pageRows_4 w
    · exact pageRows_5 w
    · exact pageRows_6 w
    · exact pageRows_7 w
    · exact pageRows_8 w
    · exact pageRows_9 w
    · exact pageRows_10 w
    · exact pageRows_11 w
    · exact pageRows_12 w
    · exact pageRows_13 w
    · exact pageRows_14 w
    · exact pageRows_15 w
    · exact pageRows_16 w
    · exact pageRows_17 w
    · exact pageRows_18 w
  · have e : Pl.pageRows m = [] := by
      have : ∀ m, m ≤ 33 → ¬ (1 ≤ m ∧ m ≤ 18) → Pl.pageRows m = [] := by decide
      exact this m hm h0
    rw [e]
    have hne : ∀ k : Int, 1 ≤ k → k ≤ 18 → ((m : Int) == k) = false := fun k a b => by rw [beq_eq_false_iff_ne]; omega
    have n1 := hne 1 (by omega) (by omega)
    have n2 := hne 2 (by omega) (by omega)
    have n3 := hne 3 (by omega) (by omega)
    have n4 := hne 4 (by omega) (by omega)
    have n5 := hne 5 (by omega) (by omega)
    have n6 := hne 6 (by omega) (by omega)
    have n7 := hne 7 (by omega) (by omega)
    have n8 := hne 8 (by omega) (by omega)
    have n9 := hne 9 (by omega) (by omega)
    have n10 := hne 10 (by omega) (by omega)
    have n11 := hne 11 (by omega) (by omega)
    have n12 := hne 12 (by omega) (by omega)
    have n13 := hne 13 (by omega) (by omega)
    have n14 := hne 14 (by omega) (by omega)
    have n15 := hne 15 (by omega) (by omega)
    have n16 := hne 16 (by omega) (by omega)
    have n17 := hne 17 (by omega) (by omega)
    have n18 := hne 18 (by omega) (by omega)
    clear hne h0
    go_enter Tryd.func98, Tryd.ntmps98
    go_wp2
    go_ret
    exact ⟨_, rfl, .inl ⟨rfl, rfl⟩, Below.refl _ _⟩

theorem innerRows_any (m : Nat) (h20 : 20 ≤ m) (hm : m ≤ 33) (w : World) :
    Calls Tryd.prog 99 #[.int .i64 m] w fun e w' => ∃ v, e = .returned v ∧ RowsAt v w' (Pl.innerRows m) ∧ Below w.heap.size w w' := by
  rcases (show m = 20 ∨ m = 21 ∨ m = 22 ∨ m = 23 ∨ m = 24 ∨ m = 25 ∨ m = 26 ∨ m = 27 ∨ m = 28 ∨ m = 29 ∨ m = 30 ∨ m = 31 ∨ m = 32 ∨ m = 33 by omega) with rfl | rfl | rfl | rfl | rfl | rfl | rfl | rfl | rfl | rfl | rfl | rfl | rfl | rfl
  · exact innerRows_20 w
  · exact innerRows_21 w
  · exact innerRows_22 w
  · exact innerRows_23 w
  · exact innerRows_24 w
  · exact innerRows_25 w
  · exact innerRows_26 w
  · exact innerRows_27 w
  · exact innerRows_28 w
  · exact innerRows_29 w
  · exact innerRows_30 w
  · exact innerRows_31 w
  · exact innerRows_32 w
  · exact innerRows_33 w

end Go.Proofs.YtfkhljmiehdgmaaDoor

/-
  The walks of the document's answer on pages: to which mode a byte leads.
-/
namespace Go.Proofs.YtfkhljmiehdgmaaDoor
open Go.RowKit

theorem RowsAt.kept {v : Value} {w w' : World} {l : List (List UInt8 × Int)} (h : RowsAt v w l) (hb : Below w.heap.size w w') : RowsAt v w' l := by
  rcases h with h | ⟨g, hv, hc⟩
  · exact .inl h
  · refine .inr ⟨g, hv, fun k r hk => ?_⟩
    obtain ⟨a, b⟩ := hc k r hk
    have hg : g < w.heap.size := by
      rcases Nat.lt_or_ge g w.heap.size with h' | h'
      · exact h'
      · simp [World.cell?, Array.getElem?_eq_none h'] at a
    exact ⟨(hb.cell (p := ⟨g, k * 2, none⟩) hg).trans a, (hb.cell (p := ⟨g, k * 2 + 1, none⟩) hg).trans b⟩
theorem tgt_here {m k : Nat} {b : UInt8} {r : List UInt8 × Int} (hr : (Pl.rowsOf m)[k]? = some r) (hn : ((Pl.rowsOf m).take k).find? (Pl.rowHit b) = none) (h : Pl.rowHit b r = true) : Pl.tgt m b = r.2 := by
  unfold Pl.tgt
  rw [Pl.tab_here _ k r hr hn h]
theorem tgt_none {m k : Nat} {b : UInt8} (hk : (Pl.rowsOf m).length ≤ k) (hn : ((Pl.rowsOf m).take k).find? (Pl.rowHit b) = none) : Pl.tgt m b = m := by
  rw [List.take_of_length_le hk] at hn
  unfold Pl.tgt
  rw [hn]
theorem rows_small : ∀ m, m ≤ 33 → (Pl.rowsOf m).length ≤ 5 ∧ ∀ r ∈ Pl.rowsOf m, r.1.length ≤ 60 := by decide +kernel

set_option maxRecDepth 100000 in
set_option maxHeartbeats 1600000 in
theorem target_high (m : Nat) (b : UInt8) (w : World) (hm : m ≤ 33) (h20 : 20 ≤ m) :
    Calls Tryd.prog 84 #[.int .i64 m, .int .u8 b.toNat] w fun e w' => e = .returned (.int .i64 (Pl.tgt m b)) ∧ Below w.heap.size w w' := by
  have hrs := rows_small m hm
  have HT := (show Hid _ from fun (k : Nat) (r : List UInt8 × Int) => @tgt_here m k b r)
  have HTn := (show Hid _ from fun (k : Nat) => @tgt_none m k b)
  generalize Pl.tgt m b = T at HT HTn ⊢
  have hi : (20 : Int) ≤ (m : Int) := by omega
  have hro : Pl.rowsOf m = Pl.innerRows m := by unfold Pl.rowsOf; rw [if_pos h20]
  go_enter Tryd.func84, Tryd.ntmps84
  go_wp2_with fail
  refine (pageRows_any m hm _).mono ?_
  rintro e w1 ⟨v0, rfl, _, hb1⟩
  go_wp2_with fail
  refine (innerRows_any m h20 hm _).mono ?_
  rintro e w2 ⟨v, rfl, hv, hb2⟩
  have hw := hb1.trans (hb2.mono hb1.size)
  rw [← hro] at hv
  clear hb1 hb2 hro hi h20
  generalize Pl.rowsOf m = L at hv hrs HT HTn
  have hL := hrs.1
  have HL := (show Hid _ from hrs.2)
  clear hrs
  rcases hv with ⟨rfl, rfl⟩ | ⟨g, rfl, hc⟩
  · have HF : Hid (T = m) := HTn.out 0 (Nat.le_refl _) rfl
    go_wp2_with fail
    go_loop [6] (fun i => i = .int .i64 0) (fun _ => 0)
    case atStart => rfl
    case round =>
      subst hrel
      go_wp2
      go_ret
      exact ⟨ret_int (by rw [HF.out]), hw⟩
  · have HC := (show Hid _ from hc)
    clear hc
    go_wp2_with fail
    go_loop [6] (fun i => ∃ k : Nat, k ≤ L.length ∧ i = .int .i64 k ∧ (L.take k).find? (Pl.rowHit b) = none) (fun i => L.length - (intOf i).toNat)
    case atStart => exact ⟨0, Nat.zero_le _, rfl, rfl⟩
    case round =>
      obtain ⟨k, hk, rfl, hn⟩ := hrel
      have HN := (show Hid _ from hn)
      clear hn
      by_cases hlt : k < L.length
      · have hlt' : (k : Int) < (L.length : Int) := by omega
        obtain ⟨r, hr⟩ : ∃ r, L[k]? = some r := ⟨_, List.getElem?_eq_getElem hlt⟩
        obtain ⟨q0, q1⟩ := HC.out k r hr
        have hrl := HL.out r (List.mem_of_getElem? hr)
        have HR := (show Hid _ from hr)
        clear hr
        by_cases he : r.1 = []
        · have he' : (r.1 == []) = true := by rw [he]; rfl
          have HV : Hid (T = r.2) := HT.out k r HR.out HN.out (by unfold Pl.rowHit; rw [he']; rfl)
          clear he'
          rw [he] at q0
          go_wp2_with fail
          go_ret
          exact ⟨ret_int (by rw [HV.out]), hw⟩
        · have he' : (r.1 == []) = false := beq_eq_false_iff_ne.2 he
          by_cases ha : Pl.among b r.1 = true
          · have HV : Hid (T = r.2) := HT.out k r HR.out HN.out (by unfold Pl.rowHit; rw [ha, Bool.or_true])
            clear he
            go_wp2_with (go_at_call 48; refine (amongL b _ r.1 _ rfl (by omega)).mono ?_; rintro e w' ⟨rfl, rfl⟩)
            go_ret
            exact ⟨ret_int (by rw [HV.out]), hw⟩
          · have ha := Bool.eq_false_iff.2 ha
            have HX : Hid (Pl.rowHit b r = false) := by show _ = _; unfold Pl.rowHit; rw [he', ha]; rfl
            clear he
            go_wp2_with (go_at_call 48; refine (amongL b _ r.1 _ rfl (by omega)).mono ?_; rintro e w' ⟨rfl, rfl⟩)
            go_round
            case rel => exact ⟨k + 1, by omega, by go_num, Pl.tab_next _ k r HR.out HN.out HX.out⟩
            case measure => simp [intOf]; omega
      · have HF : Hid (T = m) := HTn.out k (by omega) HN.out
        have hlt' : decide ((k : Int) < (L.length : Int)) = false := by rw [decide_eq_false_iff_not]; omega
        go_wp2
        go_ret
        exact ⟨ret_int (by rw [HF.out]), hw⟩

set_option maxRecDepth 100000 in
set_option maxHeartbeats 1600000 in
theorem target_low (m : Nat) (b : UInt8) (w : World) (hm : m ≤ 33) (h20 : ¬ 20 ≤ m) :
    Calls Tryd.prog 84 #[.int .i64 m, .int .u8 b.toNat] w fun e w' => e = .returned (.int .i64 (Pl.tgt m b)) ∧ Below w.heap.size w w' := by
  have hrs := rows_small m hm
  have HT := (show Hid _ from fun (k : Nat) (r : List UInt8 × Int) => @tgt_here m k b r)
  have HTn := (show Hid _ from fun (k : Nat) => @tgt_none m k b)
  generalize Pl.tgt m b = T at HT HTn ⊢
  have hi : decide ((20 : Int) ≤ (m : Int)) = false := by rw [decide_eq_false_iff_not]; omega
  have hro : Pl.rowsOf m = Pl.pageRows m := by unfold Pl.rowsOf; rw [if_neg h20]
  go_enter Tryd.func84, Tryd.ntmps84
  go_wp2_with fail
  refine (pageRows_any m hm _).mono ?_
  rintro e w1 ⟨v, rfl, hv, hw⟩
  rw [← hro] at hv
  clear hro h20
  generalize Pl.rowsOf m = L at hv hrs HT HTn
  have hL := hrs.1
  have HL := (show Hid _ from hrs.2)
  clear hrs
  rcases hv with ⟨rfl, rfl⟩ | ⟨g, rfl, hc⟩
  · have HF : Hid (T = m) := HTn.out 0 (Nat.le_refl _) rfl
    go_wp2_with fail
    go_loop [6] (fun i => i = .int .i64 0) (fun _ => 0)
    case atStart => rfl
    case round =>
      subst hrel
      go_wp2
      go_ret
      exact ⟨ret_int (by rw [HF.out]), hw⟩
  · have HC := (show Hid _ from hc)
    clear hc
    go_wp2_with fail
    go_loop [6] (fun i => ∃ k : Nat, k ≤ L.length ∧ i = .int .i64 k ∧ (L.take k).find? (Pl.rowHit b) = none) (fun i => L.length - (intOf i).toNat)
    case atStart => exact ⟨0, Nat.zero_le _, rfl, rfl⟩
    case round =>
      obtain ⟨k, hk, rfl, hn⟩ := hrel
      have HN := (show Hid _ from hn)
      clear hn
      by_cases hlt : k < L.length
      · have hlt' : (k : Int) < (L.length : Int) := by omega
        obtain ⟨r, hr⟩ : ∃ r, L[k]? = some r := ⟨_, List.getElem?_eq_getElem hlt⟩
        obtain ⟨q0, q1⟩ := HC.out k r hr
        have hrl := HL.out r (List.mem_of_getElem? hr)
        have HR := (show Hid _ from hr)
        clear hr
        by_cases he : r.1 = []
        · have he' : (r.1 == []) = true := by rw [he]; rfl
          have HV : Hid (T = r.2) := HT.out k r HR.out HN.out (by unfold Pl.rowHit; rw [he']; rfl)
          clear he'
          rw [he] at q0
          go_wp2_with fail
          go_ret
          exact ⟨ret_int (by rw [HV.out]), hw⟩
        · have he' : (r.1 == []) = false := beq_eq_false_iff_ne.2 he
          by_cases ha : Pl.among b r.1 = true
          · have HV : Hid (T = r.2) := HT.out k r HR.out HN.out (by unfold Pl.rowHit; rw [ha, Bool.or_true])
            clear he
            go_wp2_with (go_at_call 48; refine (amongL b _ r.1 _ rfl (by omega)).mono ?_; rintro e w' ⟨rfl, rfl⟩)
            go_ret
            exact ⟨ret_int (by rw [HV.out]), hw⟩
          · have ha := Bool.eq_false_iff.2 ha
            have HX : Hid (Pl.rowHit b r = false) := by show _ = _; unfold Pl.rowHit; rw [he', ha]; rfl
            clear he
            go_wp2_with (go_at_call 48; refine (amongL b _ r.1 _ rfl (by omega)).mono ?_; rintro e w' ⟨rfl, rfl⟩)
            go_round
            case rel => exact ⟨k + 1, by omega, by go_num, Pl.tab_next _ k r HR.out HN.out HX.out⟩
            case measure => simp [intOf]; omega
      · have HF : Hid (T = m) := HTn.out k (by omega) HN.out
        have hlt' : decide ((k : Int) < (L.length : Int)) = false := by rw [decide_eq_false_iff_not]; omega
        go_wp2
        go_ret
        exact ⟨ret_int (by rw [HF.out]), hw⟩


theorem target_any (m : Nat) (b : UInt8) (w : World) (hm : m ≤ 33) :
    Calls Tryd.prog 84 #[.int .i64 m, .int .u8 b.toNat] w fun e w' => e = .returned (.int .i64 (Pl.tgt m b)) ∧ Below w.heap.size w w' := by
  by_cases h : 20 ≤ m
  · exact target_high m b w hm h
  · exact target_low m b w hm h

end Go.Proofs.YtfkhljmiehdgmaaDoor

/-
  The walks of the document's answer on pages: a byte is read by the table: the content of a tag.
-/
namespace Go.Proofs.YtfkhljmiehdgmaaDoor
open Go.RowKit

theorem SpAt.alloc {w : World} {g : Nat} {p : Pl.Sp} (h : SpAt w g p) (hg : g < w.heap.size) (o : Obj) : SpAt (w.alloc o) g p := h.kept ((Below.refl _ w).alloc (Nat.le_refl _) o) hg
/-- all that is known while a byte is read: the spot at g, the answer's slot behind it -/
structure SpMid (w0 w : World) (g : Nat) (p : Pl.Sp) : Prop where
  eq : w0.heap.size = g
  below : Below w0.heap.size w0 w
  at' : SpAt w g p
  slot : Slot6 w g
  res : Slot6 w (g + 1)
theorem SpMid.start {w0 : World} (p : Pl.Sp) (cs : Array Value) (t t' : TypeId) (hc : cs.size = 6) : SpMid w0 ((w0.alloc (.cells (spCells p) t)).alloc (.cells cs t')) w0.heap.size p :=
  ⟨rfl, ((Below.refl _ _).alloc (Nat.le_refl _) _).alloc (by simp) _, (spAt_alloc w0 p t).alloc (by simp) _, (slot6_new w0 _ _ _ rfl rfl).alloc _, slot6_new _ _ _ _ (by simp) hc⟩
theorem SpMid.kept {w0 w w' : World} {g : Nat} {p : Pl.Sp} (h : SpMid w0 w g p) (hb : Below w.heap.size w w') : SpMid w0 w' g p :=
  ⟨h.eq, h.below.trans (hb.mono h.below.size), h.at'.kept hb h.slot.lt, h.slot.kept hb h.slot.lt, h.res.kept hb h.res.lt⟩
theorem SpMid.alloc {w0 w : World} {g : Nat} {p : Pl.Sp} (h : SpMid w0 w g p) (o : Obj) : SpMid w0 (w.alloc o) g p := h.kept ((Below.refl _ w).alloc (Nat.le_refl _) o)

set_option maxRecDepth 100000 in
set_option maxHeartbeats 800000 in
theorem spStart_any (w : World) :
    Calls Tryd.prog 44 #[] w fun e w' => e = .returned (.agg #[.int .i64 1, .string ⟨#[]⟩, .string ⟨#[]⟩, .string ⟨#[]⟩, .string ⟨#[]⟩, .int .i64 0]) ∧ w.alloc (.cells #[.int .i64 1, .string ⟨#[]⟩, .string ⟨#[]⟩, .string ⟨#[]⟩, .string ⟨#[]⟩, .int .i64 0] 64) = w' := by
  go_enter Tryd.func44, Tryd.ntmps44
  go_wp2
  refine bodyPost_cell Tryd.results44 w.heap.size _ _ Tryd.underlying64 rfl rfl (heap_alloc_new _ _) (by kernel_rfl) rfl ?_
  exact ⟨rfl, rfl⟩

set_option maxRecDepth 100000 in
set_option maxHeartbeats 1600000 in
theorem step_content_text (p : Pl.Sp) (m : Nat) (b : UInt8) (w : World) (hpm : p.mode = m) (hm : m ≤ 33) (hT : Pl.tgt m b = -1) (hc : Pl.contentOf p.tag = 1) :
    Calls Tryd.prog 63 #[spVal p, .int .u8 b.toNat] w fun e w' => e = .returned (spVal (p.step1 m b)) ∧ Below w.heap.size w w' := by
  have HV : Hid (p.step1 m b = Pl.Sp.start) := by show _ = _; unfold Pl.Sp.step1; rw [if_pos hT, if_pos hc]
  rw [HV.out]
  rw [show spVal Pl.Sp.start = .agg #[.int .i64 1, .string ⟨#[]⟩, .string ⟨#[]⟩, .string ⟨#[]⟩, .string ⟨#[]⟩, .int .i64 0] from rfl]
  have hTg := fun w => target_any m b w hm
  rw [hT] at hTg
  have hIn := fun w => inner_any p.tag w
  rw [hc] at hIn
  have HT := (show Hid _ from hTg)
  have HI := (show Hid _ from hIn)
  have hS := fun w => spStart_any w
  have HS := (show Hid _ from hS)
  have HM := fun t t' cs hc => SpMid.start (w0 := w) p cs t t' hc
  unfold spVal spCells
  unfold spCells at HM
  rw [hpm] at HM ⊢
  clear hTg hIn hS hT hc hpm
  go_enter Tryd.func63, Tryd.ntmps63
  go_wp2_with fail
  refine (HT.out _).mono ?_
  rintro e w1 ⟨rfl, hb1⟩
  have mid := (HM _ _ _ rfl).kept hb1
  clear hb1
  have q1 := mid.at'.tag
  go_wp2_with fail
  refine (HI.out _).mono ?_
  rintro e w2 ⟨rfl, hb2⟩
  have mid := mid.kept hb2
  clear hb2 q1
  go_wp2_with fail
  refine (HS.out _).mono ?_
  rintro e w3 ⟨rfl, hw3⟩
  have mid := mid.alloc (.cells #[.int .i64 1, .string ⟨#[]⟩, .string ⟨#[]⟩, .string ⟨#[]⟩, .string ⟨#[]⟩, .int .i64 0] 64)
  have hw := mid.below
  have hsl := mid.res
  obtain ⟨v0, p0⟩ := hsl.cell 0 (by omega)
  obtain ⟨v1, p1⟩ := hsl.cell 1 (by omega)
  obtain ⟨v2, p2⟩ := hsl.cell 2 (by omega)
  obtain ⟨v3, p3⟩ := hsl.cell 3 (by omega)
  obtain ⟨v4, p4⟩ := hsl.cell 4 (by omega)
  obtain ⟨v5, p5⟩ := hsl.cell 5 (by omega)
  have f0 := hsl.thaw 0
  have f1 := hsl.thaw 1
  have f2 := hsl.thaw 2
  have f3 := hsl.thaw 3
  have f4 := hsl.thaw 4
  have f5 := hsl.thaw 5
  subst hw3
  go_wp2_with fail
  refine bodyPost_set6 Tryd.results63 (w.heap.size + 1) _ Tryd.underlying64 rfl (by kernel_rfl) rfl hsl rfl _ _ _ _ _ _ ?_
  exact ⟨rfl, below_set6 hw (by simp) _ _ _ _ _ _⟩

set_option maxRecDepth 100000 in
set_option maxHeartbeats 1600000 in
theorem step_content_other (p : Pl.Sp) (m : Nat) (b : UInt8) (w : World) (hpm : p.mode = m) (hm : m ≤ 33) (hT : Pl.tgt m b = -1) (hc : ¬ Pl.contentOf p.tag = 1) :
    Calls Tryd.prog 63 #[spVal p, .int .u8 b.toNat] w fun e w' => e = .returned (spVal (p.step1 m b)) ∧ Below w.heap.size w w' := by
  have HV : Hid (p.step1 m b = ⟨Pl.contentOf p.tag, p.tag, [], [], [], 0⟩) := by show _ = _; unfold Pl.Sp.step1; rw [if_pos hT, if_neg hc]
  rw [HV.out]
  have hTg := fun w => target_any m b w hm
  rw [hT] at hTg
  have hIn := fun w => inner_any p.tag w
  have hc' : ((Pl.contentOf p.tag : Int) == 1) = false := by rw [beq_eq_false_iff_ne]; omega
  generalize Pl.contentOf p.tag = c at hIn hc' HV ⊢
  have HT := (show Hid _ from hTg)
  have HI := (show Hid _ from hIn)
  have HM := fun t t' cs hc => SpMid.start (w0 := w) p cs t t' hc
  unfold spVal spCells
  unfold spCells at HM
  rw [hpm] at HM ⊢
  clear hTg hIn hT hc hpm HV
  go_enter Tryd.func63, Tryd.ntmps63
  go_wp2_with fail
  refine (HT.out _).mono ?_
  rintro e w1 ⟨rfl, hb1⟩
  have mid := (HM _ _ _ rfl).kept hb1
  clear hb1
  have q1 := mid.at'.tag
  go_wp2_with fail
  refine (HI.out _).mono ?_
  rintro e w2 ⟨rfl, hb2⟩
  have mid := mid.kept hb2
  clear hb2 q1
  have q1 := mid.at'.tag
  have hw := mid.below
  have hsl := mid.res
  obtain ⟨v0, p0⟩ := hsl.cell 0 (by omega)
  obtain ⟨v1, p1⟩ := hsl.cell 1 (by omega)
  obtain ⟨v2, p2⟩ := hsl.cell 2 (by omega)
  obtain ⟨v3, p3⟩ := hsl.cell 3 (by omega)
  obtain ⟨v4, p4⟩ := hsl.cell 4 (by omega)
  obtain ⟨v5, p5⟩ := hsl.cell 5 (by omega)
  have f0 := hsl.thaw 0
  have f1 := hsl.thaw 1
  have f2 := hsl.thaw 2
  have f3 := hsl.thaw 3
  have f4 := hsl.thaw 4
  have f5 := hsl.thaw 5
  go_wp2_with fail
  refine bodyPost_set6 Tryd.results63 (w.heap.size + 1) _ Tryd.underlying64 rfl (by kernel_rfl) rfl hsl rfl _ _ _ _ _ _ ?_
  exact ⟨rfl, below_set6 hw (by simp) _ _ _ _ _ _⟩

end Go.Proofs.YtfkhljmiehdgmaaDoor

/-
  The walks of the document's answer on pages: a byte is read by the table.
-/
namespace Go.Proofs.YtfkhljmiehdgmaaDoor
open Go.RowKit

theorem heap_cell_old (w : World) (o : Obj) (p : Addr) (hp : p.block < w.heap.size) : (w.alloc o).cell? p = w.cell? p := World.cell?_of_block (heap_alloc_old w o hp)

theorem bodyPost_set6a {P : Program} {fn : Func} {R : Ending → World → Prop} {a : Act} {w : World} {p : Tmp} {ty : TypeId} (h : fn.results = #[.cell p ty]) (g : Nat) (d : TypeDesc) (hu : P.underlying ty = some d) (hd : aggD d = true) (hi : (P.info? ty).map (·.size) = some 6)
    (hp : a.tmps.getD p undef = .pointer (some ⟨g, 0, none⟩)) (hs : Slot6 w g) (hdf : a.defers = []) (o : Obj) (v0 v1 v2 v3 v4 v5 : Value) (hR : R (.returned (.agg #[v0, v1, v2, v3, v4, v5])) ((set6 w g v0 v1 v2 v3 v4 v5).alloc o)) : bodyPost P fn R .ret a ((set6 w g v0 v1 v2 v3 v4 v5).alloc o) :=
  bodyPost_ret (results_cell h a.tmps _ g _ d hp (fun j v hv => (heap_cell_old _ _ _ (Nat.lt_of_lt_of_le hs.lt (below_set6 (Below.refl g w) (Nat.le_refl _) v0 v1 v2 v3 v4 v5).size)).trans (cells_set6 hs v0 v1 v2 v3 v4 v5 j v hv)) hu hd hi) hdf hR

/- the byte leads to a mode by the table -/
set_option maxRecDepth 100000 in
set_option maxHeartbeats 3200000 in
theorem step_plain (p : Pl.Sp) (m : Nat) (b : UInt8) (w : World) (hpm : p.mode = m) (hm : m ≤ 33) (ht : p.tag.length ≤ 1000) (ha : p.attr.length ≤ 1000) (hT : ¬ Pl.tgt m b = -1) (hT2 : ¬ Pl.tgt m b = -2) (hne : ¬ Pl.tgt m b = m) (h8 : ¬ Pl.tgt m b = 8) (h9 : ¬ Pl.tgt m b = 9) :
    Calls Tryd.prog 63 #[spVal p, .int .u8 b.toNat] w fun e w' => e = .returned (spVal (p.step1 m b)) ∧ Below w.heap.size w w' := by
  have HV : Hid (p.step1 m b = ⟨Pl.tgt m b, (p.named m b (Pl.tgt m b)).tag, (p.named m b (Pl.tgt m b)).attr, (p.named m b (Pl.tgt m b)).inside, [], 0⟩) := by
    show _ = _
    unfold Pl.Sp.step1
    rw [if_neg hT, if_neg (fun q => hne q.1), if_neg (by rintro (q | q) <;> contradiction)]
  rw [HV.out]
  have hTg := fun w => target_any m b w hm
  have hN := fun w => spNamed_any p m b (Pl.tgt m b) w hpm ht ha
  have hNr : (p.named m b (Pl.tgt m b)).run = [] ∧ (p.named m b (Pl.tgt m b)).far = 0 ∧ (p.named m b (Pl.tgt m b)).mode = 0 := by
    unfold Pl.Sp.named
    repeat' split
    all_goals exact ⟨rfl, rfl, rfl⟩
  generalize Pl.tgt m b = T at hTg hN hNr HV hT hT2 hne h8 h9 ⊢
  generalize p.named m b T = N at hN hNr HV ⊢
  obtain ⟨nm, nt, na, ni, nr, nf⟩ := N
  obtain ⟨rfl, rfl, rfl⟩ := hNr
  have t1 : (T == -1) = false := by rw [beq_eq_false_iff_ne]; exact hT
  have t2 : (T == -2) = false := by rw [beq_eq_false_iff_ne]; exact hT2
  have t3 : (T == (m : Int)) = false := by rw [beq_eq_false_iff_ne]; exact hne
  have t8 : (T == 8) = false := by rw [beq_eq_false_iff_ne]; exact h8
  have t9 : (T == 9) = false := by rw [beq_eq_false_iff_ne]; exact h9
  unfold spVal spCells at hN ⊢
  simp only at hN ⊢
  rw [hpm] at hN ⊢
  have HT := (show Hid _ from hTg)
  have HN := (show Hid _ from hN)
  have HM := fun t t' cs hc => SpMid.start (w0 := w) p cs t t' hc
  unfold spCells at HM
  rw [hpm] at HM
  have HP : Hid (p.mode = m) := hpm
  clear hTg hN hT hT2 hne h8 h9 hpm HV
  go_enter Tryd.func63, Tryd.ntmps63
  go_wp2_with fail
  refine (HT.out _).mono ?_
  rintro e w1 ⟨rfl, hb1⟩
  have mid := (HM _ _ _ rfl).kept hb1
  clear hb1
  have q0 := mid.at'.mode
  have q1 := mid.at'.tag
  have q2 := mid.at'.attr
  have q3 := mid.at'.inside
  have q4 := mid.at'.run
  have q5 := mid.at'.far
  rw [HP.out] at q0
  go_wp2_with fail
  refine (HN.out _).mono ?_
  rintro e w2 ⟨rfl, hb2⟩
  have mid := mid.kept hb2
  clear hb2 q0 q1 q2 q3 q4 q5
  have a0 := fun o => (mid.alloc o).at'.mode
  have a1 := fun o => (mid.alloc o).at'.tag
  have a2 := fun o => (mid.alloc o).at'.attr
  have a3 := fun o => (mid.alloc o).at'.inside
  have a4 := fun o => (mid.alloc o).at'.run
  have a5 := fun o => (mid.alloc o).at'.far
  simp only [HP.out] at a0
  have hw := fun o => (mid.alloc o).below
  have hsl := fun o => (mid.alloc o).res
  obtain ⟨v0, p0⟩ := mid.res.cell 0 (by omega)
  obtain ⟨v1, p1⟩ := mid.res.cell 1 (by omega)
  obtain ⟨v2, p2⟩ := mid.res.cell 2 (by omega)
  obtain ⟨v3, p3⟩ := mid.res.cell 3 (by omega)
  obtain ⟨v4, p4⟩ := mid.res.cell 4 (by omega)
  obtain ⟨v5, p5⟩ := mid.res.cell 5 (by omega)
  have rlt := mid.res.lt
  have r0 := fun o => (heap_cell_old w2 o ⟨w.heap.size + 1, 0, none⟩ rlt).trans p0
  have r1 := fun o => (heap_cell_old w2 o ⟨w.heap.size + 1, 1, none⟩ rlt).trans p1
  have r2 := fun o => (heap_cell_old w2 o ⟨w.heap.size + 1, 2, none⟩ rlt).trans p2
  have r3 := fun o => (heap_cell_old w2 o ⟨w.heap.size + 1, 3, none⟩ rlt).trans p3
  have r4 := fun o => (heap_cell_old w2 o ⟨w.heap.size + 1, 4, none⟩ rlt).trans p4
  have r5 := fun o => (heap_cell_old w2 o ⟨w.heap.size + 1, 5, none⟩ rlt).trans p5
  have f0 := fun o => (mid.alloc o).res.thaw 0
  have f1 := fun o => (mid.alloc o).res.thaw 1
  have f2 := fun o => (mid.alloc o).res.thaw 2
  have f3 := fun o => (mid.alloc o).res.thaw 3
  have f4 := fun o => (mid.alloc o).res.thaw 4
  have f5 := fun o => (mid.alloc o).res.thaw 5
  have g0 := mid.res.thaw 0
  have g1 := mid.res.thaw 1
  have g2 := mid.res.thaw 2
  have g3 := mid.res.thaw 3
  have g4 := mid.res.thaw 4
  have g5 := mid.res.thaw 5
  have hw2 := mid.below
  have hsl2 := mid.res
  clear HT HN HM hw hsl
  go_wp2_with fail
  refine bodyPost_set6a Tryd.results63 (w.heap.size + 1) _ Tryd.underlying64 rfl (by kernel_rfl) rfl hsl2 rfl _ _ _ _ _ _ _ ?_
  exact ⟨rfl, (below_set6 hw2 (by simp) _ _ _ _ _ _).alloc (below_set6 hw2 (by simp) _ _ _ _ _ _).size _⟩

end Go.Proofs.YtfkhljmiehdgmaaDoor

/-
  The walks of the document's answer on pages: a byte is read by the table: a value in quotes begins; a mode that stays and keeps nothing.
-/
namespace Go.Proofs.YtfkhljmiehdgmaaDoor
open Go.RowKit

set_option maxRecDepth 100000 in
set_option maxHeartbeats 3200000 in
theorem step_quote8 (p : Pl.Sp) (m : Nat) (b : UInt8) (w : World) (hpm : p.mode = m) (hm : m ≤ 33) (ht : p.tag.length ≤ 1000) (ha : p.attr.length ≤ 1000) (hT : Pl.tgt m b = 8) (hne : ¬ m = 8) :
    Calls Tryd.prog 63 #[spVal p, .int .u8 b.toNat] w fun e w' => e = .returned (spVal (p.step1 m b)) ∧ Below w.heap.size w w' := by
  have HV : Hid (p.step1 m b = ⟨Pl.tgt m b, (p.named m b (Pl.tgt m b)).tag, (p.named m b (Pl.tgt m b)).attr, (p.named m b (Pl.tgt m b)).inside, [], 2⟩) := by
    show _ = _
    unfold Pl.Sp.step1
    rw [if_neg (by rw [hT]; decide), if_neg (fun q => hne (by have := q.1; omega)), if_pos (by omega), if_neg (by omega)]
  rw [HV.out]
  have hTg := fun w => target_any m b w hm
  have hN := fun w => spNamed_any p m b (Pl.tgt m b) w hpm ht ha
  have hNr : (p.named m b (Pl.tgt m b)).run = [] ∧ (p.named m b (Pl.tgt m b)).far = 0 ∧ (p.named m b (Pl.tgt m b)).mode = 0 := by
    unfold Pl.Sp.named
    repeat' split
    all_goals exact ⟨rfl, rfl, rfl⟩
  rw [hT] at hTg hN hNr HV ⊢
  generalize p.named m b 8 = N at hN hNr HV ⊢
  obtain ⟨nm, nt, na, ni, nr, nf⟩ := N
  obtain ⟨rfl, rfl, rfl⟩ := hNr
  have t3 : ((8 : Int) == (m : Int)) = false := by rw [beq_eq_false_iff_ne]; omega
  unfold spVal spCells at hN ⊢
  simp only at hN ⊢
  rw [hpm] at hN ⊢
  have HT := (show Hid _ from hTg)
  have HN := (show Hid _ from hN)
  have HM := fun t t' cs hc => SpMid.start (w0 := w) p cs t t' hc
  unfold spCells at HM
  rw [hpm] at HM
  have HP : Hid (p.mode = m) := hpm
  clear hTg hN hT hne hpm HV
  go_enter Tryd.func63, Tryd.ntmps63
  go_wp2_with fail
  refine (HT.out _).mono ?_
  rintro e w1 ⟨rfl, hb1⟩
  have mid := (HM _ _ _ rfl).kept hb1
  clear hb1
  have q0 := mid.at'.mode
  have q1 := mid.at'.tag
  have q2 := mid.at'.attr
  have q3 := mid.at'.inside
  have q4 := mid.at'.run
  have q5 := mid.at'.far
  rw [HP.out] at q0
  go_wp2_with fail
  refine (HN.out _).mono ?_
  rintro e w2 ⟨rfl, hb2⟩
  have mid := mid.kept hb2
  clear hb2 q0 q1 q2 q3 q4 q5
  have a0 := fun o => (mid.alloc o).at'.mode
  have a1 := fun o => (mid.alloc o).at'.tag
  have a2 := fun o => (mid.alloc o).at'.attr
  have a3 := fun o => (mid.alloc o).at'.inside
  have a4 := fun o => (mid.alloc o).at'.run
  have a5 := fun o => (mid.alloc o).at'.far
  simp only [HP.out] at a0
  have hw := fun o => (mid.alloc o).below
  have hsl := fun o => (mid.alloc o).res
  obtain ⟨v0, p0⟩ := mid.res.cell 0 (by omega)
  obtain ⟨v1, p1⟩ := mid.res.cell 1 (by omega)
  obtain ⟨v2, p2⟩ := mid.res.cell 2 (by omega)
  obtain ⟨v3, p3⟩ := mid.res.cell 3 (by omega)
  obtain ⟨v4, p4⟩ := mid.res.cell 4 (by omega)
  obtain ⟨v5, p5⟩ := mid.res.cell 5 (by omega)
  have rlt := mid.res.lt
  have r0 := fun o => (heap_cell_old w2 o ⟨w.heap.size + 1, 0, none⟩ rlt).trans p0
  have r1 := fun o => (heap_cell_old w2 o ⟨w.heap.size + 1, 1, none⟩ rlt).trans p1
  have r2 := fun o => (heap_cell_old w2 o ⟨w.heap.size + 1, 2, none⟩ rlt).trans p2
  have r3 := fun o => (heap_cell_old w2 o ⟨w.heap.size + 1, 3, none⟩ rlt).trans p3
  have r4 := fun o => (heap_cell_old w2 o ⟨w.heap.size + 1, 4, none⟩ rlt).trans p4
  have r5 := fun o => (heap_cell_old w2 o ⟨w.heap.size + 1, 5, none⟩ rlt).trans p5
  have f0 := fun o => (mid.alloc o).res.thaw 0
  have f1 := fun o => (mid.alloc o).res.thaw 1
  have f2 := fun o => (mid.alloc o).res.thaw 2
  have f3 := fun o => (mid.alloc o).res.thaw 3
  have f4 := fun o => (mid.alloc o).res.thaw 4
  have f5 := fun o => (mid.alloc o).res.thaw 5
  have g0 := mid.res.thaw 0
  have g1 := mid.res.thaw 1
  have g2 := mid.res.thaw 2
  have g3 := mid.res.thaw 3
  have g4 := mid.res.thaw 4
  have g5 := mid.res.thaw 5
  have hw2 := mid.below
  have hsl2 := mid.res
  clear HT HN HM hw hsl
  go_wp2_with fail
  refine bodyPost_set6a Tryd.results63 (w.heap.size + 1) _ Tryd.underlying64 rfl (by kernel_rfl) rfl hsl2 rfl _ _ _ _ _ _ _ ?_
  exact ⟨rfl, (below_set6 hw2 (by simp) _ _ _ _ _ _).alloc (below_set6 hw2 (by simp) _ _ _ _ _ _).size _⟩

set_option maxRecDepth 100000 in
set_option maxHeartbeats 3200000 in
theorem step_quote9 (p : Pl.Sp) (m : Nat) (b : UInt8) (w : World) (hpm : p.mode = m) (hm : m ≤ 33) (ht : p.tag.length ≤ 1000) (ha : p.attr.length ≤ 1000) (hT : Pl.tgt m b = 9) (hne : ¬ m = 9) :
    Calls Tryd.prog 63 #[spVal p, .int .u8 b.toNat] w fun e w' => e = .returned (spVal (p.step1 m b)) ∧ Below w.heap.size w w' := by
  have HV : Hid (p.step1 m b = ⟨Pl.tgt m b, (p.named m b (Pl.tgt m b)).tag, (p.named m b (Pl.tgt m b)).attr, (p.named m b (Pl.tgt m b)).inside, [], 2⟩) := by
    show _ = _
    unfold Pl.Sp.step1
    rw [if_neg (by rw [hT]; decide), if_neg (fun q => hne (by have := q.1; omega)), if_pos (by omega), if_neg (by omega)]
  rw [HV.out]
  have hTg := fun w => target_any m b w hm
  have hN := fun w => spNamed_any p m b (Pl.tgt m b) w hpm ht ha
  have hNr : (p.named m b (Pl.tgt m b)).run = [] ∧ (p.named m b (Pl.tgt m b)).far = 0 ∧ (p.named m b (Pl.tgt m b)).mode = 0 := by
    unfold Pl.Sp.named
    repeat' split
    all_goals exact ⟨rfl, rfl, rfl⟩
  rw [hT] at hTg hN hNr HV ⊢
  generalize p.named m b 9 = N at hN hNr HV ⊢
  obtain ⟨nm, nt, na, ni, nr, nf⟩ := N
  obtain ⟨rfl, rfl, rfl⟩ := hNr
  have t3 : ((9 : Int) == (m : Int)) = false := by rw [beq_eq_false_iff_ne]; omega
  unfold spVal spCells at hN ⊢
  simp only at hN ⊢
  rw [hpm] at hN ⊢
  have HT := (show Hid _ from hTg)
  have HN := (show Hid _ from hN)
  have HM := fun t t' cs hc => SpMid.start (w0 := w) p cs t t' hc
  unfold spCells at HM
  rw [hpm] at HM
  have HP : Hid (p.mode = m) := hpm
  clear hTg hN hT hne hpm HV
  go_enter Tryd.func63, Tryd.ntmps63
  go_wp2_with fail
  refine (HT.out _).mono ?_
  rintro e w1 ⟨rfl, hb1⟩
  have mid := (HM _ _ _ rfl).kept hb1
  clear hb1
  have q0 := mid.at'.mode
  have q1 := mid.at'.tag
  have q2 := mid.at'.attr
  have q3 := mid.at'.inside
  have q4 := mid.at'.run
  have q5 := mid.at'.far
  rw [HP.out] at q0
  go_wp2_with fail
  refine (HN.out _).mono ?_
  rintro e w2 ⟨rfl, hb2⟩
  have mid := mid.kept hb2
  clear hb2 q0 q1 q2 q3 q4 q5
  have a0 := fun o => (mid.alloc o).at'.mode
  have a1 := fun o => (mid.alloc o).at'.tag
  have a2 := fun o => (mid.alloc o).at'.attr
  have a3 := fun o => (mid.alloc o).at'.inside
  have a4 := fun o => (mid.alloc o).at'.run
  have a5 := fun o => (mid.alloc o).at'.far
  simp only [HP.out] at a0
  have hw := fun o => (mid.alloc o).below
  have hsl := fun o => (mid.alloc o).res
  obtain ⟨v0, p0⟩ := mid.res.cell 0 (by omega)
  obtain ⟨v1, p1⟩ := mid.res.cell 1 (by omega)
  obtain ⟨v2, p2⟩ := mid.res.cell 2 (by omega)
  obtain ⟨v3, p3⟩ := mid.res.cell 3 (by omega)
  obtain ⟨v4, p4⟩ := mid.res.cell 4 (by omega)
  obtain ⟨v5, p5⟩ := mid.res.cell 5 (by omega)
  have rlt := mid.res.lt
  have r0 := fun o => (heap_cell_old w2 o ⟨w.heap.size + 1, 0, none⟩ rlt).trans p0
  have r1 := fun o => (heap_cell_old w2 o ⟨w.heap.size + 1, 1, none⟩ rlt).trans p1
  have r2 := fun o => (heap_cell_old w2 o ⟨w.heap.size + 1, 2, none⟩ rlt).trans p2
  have r3 := fun o => (heap_cell_old w2 o ⟨w.heap.size + 1, 3, none⟩ rlt).trans p3
  have r4 := fun o => (heap_cell_old w2 o ⟨w.heap.size + 1, 4, none⟩ rlt).trans p4
  have r5 := fun o => (heap_cell_old w2 o ⟨w.heap.size + 1, 5, none⟩ rlt).trans p5
  have f0 := fun o => (mid.alloc o).res.thaw 0
  have f1 := fun o => (mid.alloc o).res.thaw 1
  have f2 := fun o => (mid.alloc o).res.thaw 2
  have f3 := fun o => (mid.alloc o).res.thaw 3
  have f4 := fun o => (mid.alloc o).res.thaw 4
  have f5 := fun o => (mid.alloc o).res.thaw 5
  have g0 := mid.res.thaw 0
  have g1 := mid.res.thaw 1
  have g2 := mid.res.thaw 2
  have g3 := mid.res.thaw 3
  have g4 := mid.res.thaw 4
  have g5 := mid.res.thaw 5
  have hw2 := mid.below
  have hsl2 := mid.res
  clear HT HN HM hw hsl
  go_wp2_with fail
  refine bodyPost_set6a Tryd.results63 (w.heap.size + 1) _ Tryd.underlying64 rfl (by kernel_rfl) rfl hsl2 rfl _ _ _ _ _ _ _ ?_
  exact ⟨rfl, (below_set6 hw2 (by simp) _ _ _ _ _ _).alloc (below_set6 hw2 (by simp) _ _ _ _ _ _).size _⟩

set_option maxRecDepth 100000 in
set_option maxHeartbeats 3200000 in
theorem step_stay (p : Pl.Sp) (m : Nat) (b : UInt8) (w : World) (hpm : p.mode = m) (hm : m ≤ 33) (ht : p.tag.length ≤ 1000) (ha : p.attr.length ≤ 1000) (hT : Pl.tgt m b = m) (hr : Pl.runs m = false) :
    Calls Tryd.prog 63 #[spVal p, .int .u8 b.toNat] w fun e w' => e = .returned (spVal (p.step1 m b)) ∧ Below w.heap.size w w' := by
  have hr8 : ¬ ((m : Int) = 8 ∨ (m : Int) = 9) := by
    rintro (q | q) <;> (rw [q] at hr; revert hr; decide)
  have hr1 : ¬ (m : Int) = 1 := by
    intro q; rw [q] at hr; revert hr; decide
  have hrs : Pl.isStr m = false := by
    cases h : Pl.isStr m with
    | false => rfl
    | true => unfold Pl.runs at hr; rw [h] at hr; simp at hr
  have HV : Hid (p.step1 m b = ⟨Pl.tgt m b, (p.named m b (Pl.tgt m b)).tag, (p.named m b (Pl.tgt m b)).attr, (p.named m b (Pl.tgt m b)).inside, [], 0⟩) := by
    show _ = _
    unfold Pl.Sp.step1
    rw [if_neg (by omega), if_neg (fun q => by rw [hT, hr] at q; cases q.2), if_neg (by rw [hT]; exact fun q => hr8 q)]
  rw [HV.out]
  have hTg := fun w => target_any m b w hm
  have hN := fun w => spNamed_any p m b (Pl.tgt m b) w hpm ht ha
  have hNr : (p.named m b (Pl.tgt m b)).run = [] ∧ (p.named m b (Pl.tgt m b)).far = 0 ∧ (p.named m b (Pl.tgt m b)).mode = 0 := by
    unfold Pl.Sp.named
    repeat' split
    all_goals exact ⟨rfl, rfl, rfl⟩
  rw [hT] at hTg hN hNr HV ⊢
  generalize p.named m b m = N at hN hNr HV ⊢
  obtain ⟨nm, nt, na, ni, nr, nf⟩ := N
  obtain ⟨rfl, rfl, rfl⟩ := hNr
  have t1 : ((m : Int) == -1) = false := by rw [beq_eq_false_iff_ne]; omega
  have t2 : ((m : Int) == -2) = false := by rw [beq_eq_false_iff_ne]; omega
  have t4 : ((m : Int) == 1) = false := by rw [beq_eq_false_iff_ne]; exact hr1
  have t8 : ((m : Int) == 8) = false := by rw [beq_eq_false_iff_ne]; exact fun q => hr8 (.inl q)
  have t9 : ((m : Int) == 9) = false := by rw [beq_eq_false_iff_ne]; exact fun q => hr8 (.inr q)
  have hIs := fun w => isString_any m w
  rw [hrs] at hIs
  have HIs := (show Hid _ from hIs)
  clear hIs hrs hr1 hr8
  unfold spVal spCells at hN ⊢
  simp only at hN ⊢
  rw [hpm] at hN ⊢
  have HT := (show Hid _ from hTg)
  have HN := (show Hid _ from hN)
  have HM := fun t t' cs hc => SpMid.start (w0 := w) p cs t t' hc
  unfold spCells at HM
  rw [hpm] at HM
  have HP : Hid (p.mode = m) := hpm
  clear hTg hN hT hr hpm HV
  go_enter Tryd.func63, Tryd.ntmps63
  go_wp2_with fail
  refine (HT.out _).mono ?_
  rintro e w1 ⟨rfl, hb1⟩
  have mid := (HM _ _ _ rfl).kept hb1
  clear hb1
  have q0 := mid.at'.mode
  have q1 := mid.at'.tag
  have q2 := mid.at'.attr
  have q3 := mid.at'.inside
  have q4 := mid.at'.run
  have q5 := mid.at'.far
  rw [HP.out] at q0
  go_wp2_with fail
  refine (HN.out _).mono ?_
  rintro e w2 ⟨rfl, hb2⟩
  have mid := mid.kept hb2
  clear hb2 q0 q1 q2 q3 q4 q5
  have a0 := fun o => (mid.alloc o).at'.mode
  have a1 := fun o => (mid.alloc o).at'.tag
  have a2 := fun o => (mid.alloc o).at'.attr
  have a3 := fun o => (mid.alloc o).at'.inside
  have a4 := fun o => (mid.alloc o).at'.run
  have a5 := fun o => (mid.alloc o).at'.far
  simp only [HP.out] at a0
  have hw := fun o => (mid.alloc o).below
  have hsl := fun o => (mid.alloc o).res
  obtain ⟨v0, p0⟩ := mid.res.cell 0 (by omega)
  obtain ⟨v1, p1⟩ := mid.res.cell 1 (by omega)
  obtain ⟨v2, p2⟩ := mid.res.cell 2 (by omega)
  obtain ⟨v3, p3⟩ := mid.res.cell 3 (by omega)
  obtain ⟨v4, p4⟩ := mid.res.cell 4 (by omega)
  obtain ⟨v5, p5⟩ := mid.res.cell 5 (by omega)
  have rlt := mid.res.lt
  have r0 := fun o => (heap_cell_old w2 o ⟨w.heap.size + 1, 0, none⟩ rlt).trans p0
  have r1 := fun o => (heap_cell_old w2 o ⟨w.heap.size + 1, 1, none⟩ rlt).trans p1
  have r2 := fun o => (heap_cell_old w2 o ⟨w.heap.size + 1, 2, none⟩ rlt).trans p2
  have r3 := fun o => (heap_cell_old w2 o ⟨w.heap.size + 1, 3, none⟩ rlt).trans p3
  have r4 := fun o => (heap_cell_old w2 o ⟨w.heap.size + 1, 4, none⟩ rlt).trans p4
  have r5 := fun o => (heap_cell_old w2 o ⟨w.heap.size + 1, 5, none⟩ rlt).trans p5
  have f0 := fun o => (mid.alloc o).res.thaw 0
  have f1 := fun o => (mid.alloc o).res.thaw 1
  have f2 := fun o => (mid.alloc o).res.thaw 2
  have f3 := fun o => (mid.alloc o).res.thaw 3
  have f4 := fun o => (mid.alloc o).res.thaw 4
  have f5 := fun o => (mid.alloc o).res.thaw 5
  have g0 := mid.res.thaw 0
  have g1 := mid.res.thaw 1
  have g2 := mid.res.thaw 2
  have g3 := mid.res.thaw 3
  have g4 := mid.res.thaw 4
  have g5 := mid.res.thaw 5
  have hw2 := mid.below
  have hsl2 := mid.res
  clear HT HN HM hw hsl
  go_wp2_with (go_at_call 81; refine (HIs.out _).mono ?_; rintro e w' ⟨rfl, rfl⟩)
  refine bodyPost_set6a Tryd.results63 (w.heap.size + 1) _ Tryd.underlying64 rfl (by kernel_rfl) rfl hsl2 rfl _ _ _ _ _ _ _ ?_
  exact ⟨rfl, (below_set6 hw2 (by simp) _ _ _ _ _ _).alloc (below_set6 hw2 (by simp) _ _ _ _ _ _).size _⟩

end Go.Proofs.YtfkhljmiehdgmaaDoor
