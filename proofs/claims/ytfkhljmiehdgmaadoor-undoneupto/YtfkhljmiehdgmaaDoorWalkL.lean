/-
  The walks of the program: whether a scheme is an open one; the beginning of a link.
-/
import Derived.Test.YtfkhljmiehdgmaaDoorWalkK
import Derived.Deep.RegionWith
namespace Go.Proofs.YtfkhljmiehdgmaaDoor
open Go.RowKit

def http0 : List UInt8 := [104, 116, 116, 112]
def https0 : List UInt8 := [104, 116, 116, 112, 115]
def mailto0 : List UInt8 := [109, 97, 105, 108, 116, 111]
def isOpen (l : List UInt8) : Bool := Pl.lower l == http0 || (Pl.lower l == https0 || Pl.lower l == mailto0)

set_option maxRecDepth 100000 in
set_option maxHeartbeats 1600000 in
theorem isOpen_any (s : ByteArray) (w : World) (hs : s.size ≤ 100000000) (ht : Tabs w) :
    Calls Tryd.prog 53 #[.string s] w fun e w' => e = .returned (.bool (isOpen s.data.toList)) ∧ Below w.heap.size w w' := by
  have HO : Hid (isOpen s.data.toList = (Pl.lower s.data.toList == http0 || (Pl.lower s.data.toList == https0 || Pl.lower s.data.toList == mailto0))) := rfl
  generalize hp : Pl.lower s.data.toList = p at HO
  have HP : Hid (Pl.lower s.data.toList = p) := hp
  clear hp
  have i0 : ∀ w, (Instr.index 94 (.agg openCells) (.int .i64 0)).run Tryd.prog w = .ok (.string ⟨#[104, 116, 116, 112]⟩) w := fun _ => by kernel_rfl
  have i1 : ∀ w, (Instr.index 94 (.agg openCells) (.int .i64 1)).run Tryd.prog w = .ok (.string ⟨#[104, 116, 116, 112, 115]⟩) w := fun _ => by kernel_rfl
  have i2 : ∀ w, (Instr.index 94 (.agg openCells) (.int .i64 2)).run Tryd.prog w = .ok (.string ⟨#[109, 97, 105, 108, 116, 111]⟩) w := fun _ => by kernel_rfl
  go_enter Tryd.func53, Tryd.ntmps53
  go_wp2_with fail
  refine (Small_any s _ hs).mono ?_
  rintro e w1 ⟨rfl, hb1⟩
  have ht1 := ht.kept hb1 ht.lt
  rw [HP.out]
  go_wp2_with (refine wpList_load_cells rfl 94 _ rfl 3 rfl openCells _ ht1.1 Tryd.underlying94 rfl (by kernel_rfl) ?_)
  go_loopw [5, 9] (fun _ i wr => ∃ k : Nat, k ≤ 3 ∧ i = .int .i64 k ∧ (1 ≤ k → (p == http0) = false) ∧ (2 ≤ k → (p == https0) = false) ∧ (3 ≤ k → (p == mailto0) = false) ∧ Below w.heap.size w wr) (fun _ i _ => 3 - (intOf i).toNat)
  case atStart => exact ⟨0, by omega, rfl, by omega, by omega, by omega, hb1⟩
  case round =>
    obtain ⟨k, hk, rfl, h1, h2, h3, hbw⟩ := hrel
    have H1 : Hid (1 ≤ k → (p == http0) = false) := h1
    have H2 : Hid (2 ≤ k → (p == https0) = false) := h2
    have H3 : Hid (3 ≤ k → (p == mailto0) = false) := h3
    clear h1 h2 h3
    rcases (show k = 0 ∨ k = 1 ∨ k = 2 ∨ k = 3 by omega) with rfl | rfl | rfl | rfl
    · by_cases hq : (p == http0) = true
      · have hq' : (p == [104, 116, 116, 112]) = true := hq
        clear hq
        go_wp2
        go_ret
        exact ⟨ret_bool (by rw [HO.out]; show true = ((p == [104, 116, 116, 112]) || _); rw [hq']; rfl), hbw⟩
      · have hq : (p == http0) = false := by simpa using hq
        have HQ : Hid ((p == http0) = false) := hq
        have hq' : (p == [104, 116, 116, 112]) = false := hq
        clear hq
        go_wp2
        go_roundw
        case rel => exact ⟨1, by omega, rfl, fun _ => HQ.out, by omega, by omega, hbw⟩
        case measure => simp [intOf]
    · by_cases hq : (p == https0) = true
      · have hq' : (p == [104, 116, 116, 112, 115]) = true := hq
        clear hq
        go_wp2
        go_ret
        exact ⟨ret_bool (by rw [HO.out]; show true = (_ || ((p == [104, 116, 116, 112, 115]) || _)); rw [hq']; simp), hbw⟩
      · have hq : (p == https0) = false := by simpa using hq
        have HQ : Hid ((p == https0) = false) := hq
        have hq' : (p == [104, 116, 116, 112, 115]) = false := hq
        clear hq
        go_wp2
        go_roundw
        case rel => exact ⟨2, by omega, rfl, fun _ => H1.out (by omega), fun _ => HQ.out, by omega, hbw⟩
        case measure => simp [intOf]
    · by_cases hq : (p == mailto0) = true
      · have hq' : (p == [109, 97, 105, 108, 116, 111]) = true := hq
        clear hq
        go_wp2
        go_ret
        exact ⟨ret_bool (by rw [HO.out]; show true = (_ || (_ || (p == [109, 97, 105, 108, 116, 111]))); rw [hq']; simp), hbw⟩
      · have hq : (p == mailto0) = false := by simpa using hq
        have HQ : Hid ((p == mailto0) = false) := hq
        have hq' : (p == [109, 97, 105, 108, 116, 111]) = false := hq
        clear hq
        go_wp2
        go_roundw
        case rel => exact ⟨3, by omega, rfl, fun _ => H1.out (by omega), fun _ => H2.out (by omega), fun _ => HQ.out, hbw⟩
        case measure => simp [intOf]
    · go_wp2
      go_ret
      exact ⟨ret_bool (by rw [HO.out, H1.out (by omega), H2.out (by omega), H3.out (by omega)]; rfl), hbw⟩

end Go.Proofs.YtfkhljmiehdgmaaDoor
