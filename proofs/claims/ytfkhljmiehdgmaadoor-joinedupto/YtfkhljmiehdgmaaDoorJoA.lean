/-
  The walk of the statement Joined.
-/
import Derived.Test.YtfkhljmiehdgmaaDoorPgCon
import Derived.Test.YtfkhljmiehdgmaaDoorWalkA
import Derived.RegionTactic
import Derived.BigRegion
import Derived.Deep.RegionWith
import Derived.BigQuiet
import Derived.Deep.QuietTactic
namespace Go.Proofs.YtfkhljmiehdgmaaDoor
open Go.RowKit

/-- numbers that lie in a block -/
def Reads (w : World) (B n : Nat) (l : List Nat) : Prop := B < w.heap.size ∧ ∀ j, j < n → w.cell? ⟨B, j, none⟩ = some (.int .i64 ((l.getD j 0 : Nat) : Int))
theorem Reads.kept {w w' : World} {B n : Nat} {l : List Nat} (h : Reads w B n l) (hb : Below w.heap.size w w') : Reads w' B n l :=
  ⟨Nat.lt_of_lt_of_le h.1 hb.size, fun j hj => (hb.cell (p := ⟨B, j, none⟩) h.1).trans (h.2 j hj)⟩
theorem reads_of {w : World} {B0 B n cap : Nat} {l : List Nat} (h : w.ownsRow B0 3 1 (.slice (some ⟨B, 0, none⟩) n cap) n (intCells l)) : Reads w B n l := by
  refine ⟨(h.lt B rfl).2, fun j hj => ?_⟩
  have hl : l.length = n := by have := h.1; rw [intCells_len] at this; omega
  rw [h.cellAt j (by omega), intCells, List.getElem?_map, List.getElem?_eq_getElem (by omega), List.getD_eq_getElem?_getD, List.getElem?_eq_getElem (by omega)]
  rfl

set_option maxHeartbeats 800000 in
theorem ahead_zero (n : Nat) (w : World) : Calls Tryd.prog 16 #[.slice (some ⟨n, 0, none⟩) 0 0, .int .i64 ((0 : Nat) : Int)] w fun e w' => e = .returned (.int .i64 ((1 : Nat) : Int)) ∧ w = w' := by
  go_enter Tryd.func16, Tryd.ntmps16
  go_wp2
  go_ret
  exact ⟨rfl, rfl⟩
set_option maxHeartbeats 800000 in
theorem ahead_at (g n cap j : Nat) (x : Int) (I : Int) (w : World) (hI : I = (j : Int) + 1) (hj : j < n) (hn : n ≤ 100000000) (hc : w.cell? ⟨g, j, none⟩ = some (.int .i64 x)) :
    Calls Tryd.prog 16 #[.slice (some ⟨g, 0, none⟩) n cap, .int .i64 I] w fun e w' => e = .returned (.int .i64 x) ∧ w = w' := by
  subst hI
  have h0 : (((j : Int) + 1) == 0) = false := by rw [beq_eq_false_iff_ne]; omega
  have h1 : (j : Int) + 1 - 1 = (j : Int) := by omega
  go_enter Tryd.func16, Tryd.ntmps16
  go_wp2
  go_ret
  exact ⟨rfl, rfl⟩

set_option maxRecDepth 100000 in
set_option maxHeartbeats 6400000 in
theorem Joined_any (HM : ModesC) (s t : ByteArray) (w : World) (ht : PTabs w) (hs : s.size + t.size ≤ 10000000) :
    Calls Tryd.prog 6 #[.string s, .string t] w fun e w' => e = .returned (.bool true) ∧ Below w.heap.size w w' := by
  have H1 := HM ⟨#[60, 112, 62]⟩
  rw [show (ByteArray.mk #[60, 112, 62]).size = 3 from rfl] at H1
  have H2 := fun w h => HM s w h (by omega)
  have H3 := fun w h => HM t w h (by omega)
  have H4 := fun w h => HM (s ++ t) w h (by rw [ByteArray.size_append]; omega)
  have hst : (s ++ t).data.toList = s.data.toList ++ t.data.toList := by simp
  rw [hst, ByteArray.size_append] at H4
  have HX : Hid (∀ i, i < s.size → (Pl.modes (s.data.toList ++ t.data.toList)).getD i 0 = (Pl.modes s.data.toList).getD i 0) := fun i hi => Pl.modes_begin _ _ i (by simpa using hi)
  have HR : Hid (∀ i, i < s.size → 1 ≤ (Pl.modes s.data.toList).getD i 0 ∧ (Pl.modes s.data.toList).getD i 0 ≤ 33) := fun i hi => Pl.mode_range _ i (by simpa using hi)
  have HJ : Hid (∀ i, i < t.size → (s.size = 0 ∨ (Pl.modes s.data.toList).getD (s.size - 1) 0 = 1) → (Pl.modes (s.data.toList ++ t.data.toList)).getD (s.size + i) 0 = (Pl.modes t.data.toList).getD i 0) := fun i _ ha => Pl.modes_behind s.data.toList t.data.toList i ha
  have hone : (Pl.modes (ByteArray.mk #[60, 112, 62]).data.toList).getD 1 0 = 3 := by decide +kernel
  generalize Pl.modes (ByteArray.mk #[60, 112, 62]).data.toList = l1 at H1 hone
  generalize Pl.modes s.data.toList = la at H2 HX HR HJ
  generalize Pl.modes t.data.toList = lb at H3 HJ
  generalize Pl.modes (s.data.toList ++ t.data.toList) = lc at H4 HX HJ
  have H1 := (show Hid _ from H1)
  have H2 := (show Hid _ from H2)
  have H3 := (show Hid _ from H3)
  have H4 := (show Hid _ from H4)
  clear hst
  go_enter Tryd.func6, Tryd.ntmps6
  go_wp2_with fail
  refine (H1.out _ ht (by omega)).mono ?_
  rintro e w1 ⟨rfl, hr1, hb1⟩
  have rd1 := reads_of hr1
  have ht1 := ht.kept hb1
  have hz1 := hb1.size
  clear hr1
  go_wp2_with fail
  refine (H2.out _ ht1).mono ?_
  rintro e w2 ⟨rfl, hr2, hb2⟩
  have rda := reads_of hr2
  have rd1 := rd1.kept hb2
  have ht2 := ht1.kept hb2
  have hw2 := hb1.trans (hb2.mono hz1)
  have hz2 := hw2.size
  clear hr2 ht1 hb1 hb2
  go_wp2_with fail
  refine (H3.out _ ht2).mono ?_
  rintro e w3 ⟨rfl, hr3, hb3⟩
  have rdb := reads_of hr3
  have rda := rda.kept hb3
  have rd1 := rd1.kept hb3
  have ht3 := ht2.kept hb3
  have hw3 := hw2.trans (hb3.mono hz2)
  have hz3 := hw3.size
  clear hr3 ht2 hb3 hw2
  go_wp2_with fail
  refine (H4.out _ ht3).mono ?_
  rintro e w4 ⟨rfl, hr4, hb4⟩
  have rdc := reads_of hr4
  have rdb := rdb.kept hb4
  have rda := rda.kept hb4
  have rd1 := rd1.kept hb4
  have hw4 := hw3.trans (hb4.mono hz3)
  clear hr4 ht3 hb4 hw3
  have r1 := rd1.2 1 (by omega)
  rw [hone] at r1
  generalize w1.heap.size = B2 at rda ⊢
  generalize w2.heap.size = B3 at rdb ⊢
  generalize w3.heap.size = B4 at rdc ⊢
  have ra := rda.2
  have rb := rdb.2
  have rc := rdc.2
  clear rd1 rda rdb rdc H1 H2 H3 H4 hz1 hz2 hz3 hone
  have RA := (show Hid _ from ra)
  have RB := (show Hid _ from rb)
  have RC := (show Hid _ from rc)
  clear ra rb rc
  go_wp2_with fail
  go_loopw [9] (fun i wr => ∃ k : Nat, k ≤ s.size ∧ i = .int .i64 k ∧ ∃ m, wr = w4.drewN m) (fun i _ => s.size - (intOf i).toNat)
  case atStart => exact ⟨0, Nat.zero_le _, rfl, 0, rfl⟩
  case round =>
    obtain ⟨k, hk, rfl, m, rfl⟩ := hrel
    by_cases hlt : k < s.size
    · have c1 := RA.out k hlt
      have c2 := RC.out k (by omega)
      rw [HX.out k hlt] at c2
      have hr := HR.out k hlt
      generalize la.getD k 0 = x at c1 c2 hr
      have t0 : ((x : Int) != (x : Int)) = false := by simp
      have t1 : decide ((x : Int) < 1) = false := by rw [decide_eq_false_iff_not]; omega
      have t2 : decide ((33 : Int) < (x : Int)) = false := by rw [decide_eq_false_iff_not]; omega
      have hlt' : (k : Int) < (s.size : Int) := by omega
      have hlt2 : (k : Int) < (s.size : Int) + (t.size : Int) := by omega
      have hbd : k + 1 ≤ 20000000 := by omega
      clear hr hs
      go_wp2_with fail
      go_quiet (fail)
      go_wp2
      go_roundw
      case rel => exact ⟨k + 1, by omega, by go_num, m + nq, by simp [World.drewN]⟩
      case measure => simp [intOf]; omega
    · have hlt' : decide ((k : Int) < (s.size : Int)) = false := by rw [decide_eq_false_iff_not]; omega
      obtain ⟨M, hM, hJM⟩ : ∃ M : Nat, (∀ w', (∀ i, i < s.size → w'.cell? ⟨B2, i, none⟩ = some (.int .i64 ((la.getD i 0 : Nat) : Int))) → Calls Tryd.prog 16 #[.slice (some ⟨B2, 0, none⟩) s.size s.size, .int .i64 s.size] w' fun e w'' => e = .returned (.int .i64 M) ∧ w' = w'') ∧ (M = 1 → ∀ i, i < t.size → lc.getD (s.size + i) 0 = lb.getD i 0) := by
        by_cases h0 : s.size = 0
        · refine ⟨1, fun w' _ => ?_, fun _ i hi => HJ.out i hi (.inl h0)⟩
          rw [h0]
          exact ahead_zero _ _
        · obtain ⟨j, hj⟩ : ∃ j, s.size = j + 1 := ⟨s.size - 1, by omega⟩
          refine ⟨la.getD j 0, fun w' hw' => ?_, fun h1 i hi => HJ.out i hi (.inr (by rw [hj, Nat.add_sub_cancel]; exact h1))⟩
          exact ahead_at B2 s.size s.size j _ _ w' (by omega) (by omega) (by omega) (hw' j (by omega))
      have HA := (show Hid _ from hM)
      have HJM := (show Hid _ from hJM)
      clear hM hJM hk
      go_wp2_with fail
      refine (HA.out (w4.drewN m) RA.out).mono ?_
      rintro e w' ⟨rfl, rfl⟩
      clear HA
      go_wp2_with fail
      have hbs : s.size ≤ 10000000 := by omega
      have hbt : t.size ≤ 10000000 := by omega
      clear hs hlt hlt' HX HR HJ RA
      go_loopw [11] (fun i wr => ∃ j : Nat, j ≤ t.size ∧ i = .int .i64 j ∧ ∃ m, wr = w4.drewN m) (fun i _ => t.size - (intOf i).toNat)
      case atStart => exact ⟨0, Nat.zero_le _, rfl, m, rfl⟩
      case round =>
        obtain ⟨j, hj, rfl, m', rfl⟩ := hrel
        by_cases hlt : j < t.size
        · have hlt' : (j : Int) < (t.size : Int) := by omega
          by_cases hM1 : M = 1
          · have hM' : ((M : Int) == 1) = true := by rw [hM1]; rfl
            have c1 := RB.out j hlt
            have c2 := RC.out (s.size + j) (by omega)
            rw [HJM.out hM1 j hlt] at c2
            generalize lb.getD j 0 = x at c1 c2
            have t0 : ((x : Int) != (x : Int)) = false := by simp
            have hlt2 : (s.size : Int) + (j : Int) < (s.size : Int) + (t.size : Int) := by omega
            have hnn : (0 : Int) ≤ (s.size : Int) + (j : Int) := by omega
            have htn : ((s.size : Int) + (j : Int)).toNat = s.size + j := by omega
            have hbd : j + 1 ≤ 20000000 := by omega
            have hbd2 : s.size + j ≤ 20000000 := by omega
            clear hM1
            go_wp2_with fail
            go_quiet (fail)
            go_wp2
            go_roundw
            case rel => exact ⟨j + 1, by omega, by go_num, m' + nq, by simp [World.drewN]⟩
            case measure => simp [intOf]; omega
          · have hM' : ((M : Int) == 1) = false := by rw [beq_eq_false_iff_ne]; omega
            clear hM1
            go_wp2
            go_ret
            exact ⟨rfl, below_drewN hw4 _⟩
        · have hlt' : decide ((j : Int) < (t.size : Int)) = false := by rw [decide_eq_false_iff_not]; omega
          go_wp2
          go_ret
          exact ⟨rfl, below_drewN hw4 _⟩

end Go.Proofs.YtfkhljmiehdgmaaDoor
