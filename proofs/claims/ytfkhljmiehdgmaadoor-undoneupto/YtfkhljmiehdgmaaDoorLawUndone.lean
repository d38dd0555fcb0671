/-
  The walk of the statement Undone.
-/
import Derived.Test.YtfkhljmiehdgmaaDoorWalkQ
import Derived.Test.YtfkhljmiehdgmaaDoorWalkW
import Derived.Test.YtfkhljmiehdgmaaDoorWalkX
namespace Go.Proofs.YtfkhljmiehdgmaaDoor
open Go.RowKit

theorem lt_first : Pl.escape 1 (ByteArray.mk #[60]).data.toList = [38, 108, 116, 59] := by decide +kernel

theorem fine_num (kd : Int) (b : UInt8) (h : Pl.fine kd b = true) : ((b.toNat : Int) == 60) = false ∧ ((b.toNat : Int) == 62) = false ∧ ((b.toNat : Int) == 34) = false ∧ ((b.toNat : Int) == 39) = false ∧ ((b.toNat : Int) == 0) = false ∧ (4 ≤ kd → 32 ≤ b.toNat ∧ ((b.toNat : Int) == 47) = false) := by
  have e : ∀ n : Nat, n < 256 → (b == UInt8.ofNat n) = false → ((b.toNat : Int) == (n : Int)) = false := fun n hn hb => by rw [Pl.beq8n b n hn]; exact hb
  simp only [Pl.fine, Bool.and_eq_true, Bool.not_eq_true', Bool.or_eq_true, decide_eq_true_eq, decide_eq_false_iff_not] at h
  obtain ⟨⟨⟨⟨⟨h1, h2⟩, h3⟩, h4⟩, h5⟩, h6⟩ := h
  refine ⟨e 60 (by omega) h1, e 62 (by omega) h2, e 34 (by omega) h3, e 39 (by omega) h4, e 0 (by omega) h5, fun h => ?_⟩
  rcases h6 with h6 | ⟨h6, h7⟩
  · omega
  · exact ⟨by omega, e 47 (by omega) h7⟩

set_option maxRecDepth 100000 in
set_option maxHeartbeats 6400000 in
theorem Undone_any (kd : Int) (s : ByteArray) (w : World) (h0 : -9223372036854775808 ≤ kd) (h1 : kd ≤ 9223372036854775807) (ht : Tabs w) (hs : s.size ≤ 2000000) :
    Calls Tryd.prog 4 #[.int .i64 kd, .string s] w fun e w' => e = .returned (.bool true) ∧ Below w.heap.size w w' := by
  have hB := ht.lt
  go_enter Tryd.func4, Tryd.ntmps4
  go_wp2_with fail
  refine (pick_five kd _ h0 h1).mono ?_
  rintro e w' ⟨r, hr0, hr5, rfl, rfl⟩
  clear h0 h1
  go_wp2_with fail
  refine (Escape_any 1 ⟨#[60]⟩ _ ht (by decide)).mono ?_
  rintro e w1 ⟨rfl, hb1⟩
  rw [lt_first]
  have hz1 := hb1.size
  have ht1 := ht.kept hb1 hB
  have hl := Pl.escape_len (1 + r) s.data.toList
  have hcl := Pl.clean_longer s.data.toList
  have hcs := Pl.clean_len s.data.toList
  rw [Pl.len_eq] at hl hcl hcs
  have HFine : Hid ((Pl.escape (1 + r) s.data.toList).all (Pl.fine (1 + r)) = true) := Pl.fine_escape (1 + r) (by omega) (by omega) _
  have HU : Hid (_ ∨ _) := Pl.undo_escape (1 + r) (by omega) (by omega) s.data.toList
  have HI : Hid (Pl.clean (Pl.clean s.data.toList) = Pl.clean s.data.toList) := Pl.clean_idem _
  have HE2 : Hid (Pl.escape (1 + r) (Pl.clean s.data.toList) = Pl.escape (1 + r) s.data.toList) := Pl.escape_clean _ _
  have HErr : Hid (Pl.escErr (1 + r) = 0) := by show _ = _; unfold Pl.escErr; rw [if_pos (by omega)]
  have HC : ∀ w', Calls Tryd.prog 10 #[.string s] w' fun e w'' => e = .returned (.string ⟨(Pl.clean s.data.toList).toArray⟩) ∧ Below w'.heap.size w' w'' := fun w' => Clean_any s w' (by omega)
  have HE : ∀ w', Tabs w' → Calls Tryd.prog 9 #[.int .i64 (1 + r), .string s] w' fun e w'' => e = .returned (.tuple #[.string ⟨(Pl.escape (1 + r) s.data.toList).toArray⟩, .int .i64 0]) ∧ Below w'.heap.size w' w'' := by
    intro w' h
    have := Escape_any (1 + r) s w' h (by omega)
    rw [HErr.out] at this
    exact this
  have HD : ∀ w', Calls Tryd.prog 10 #[.string ⟨(Pl.clean s.data.toList).toArray⟩] w' fun e w'' => e = .returned (.string ⟨(Pl.clean s.data.toList).toArray⟩) ∧ Below w'.heap.size w' w'' := by
    intro w'
    have := Clean_any ⟨(Pl.clean s.data.toList).toArray⟩ w' (by rw [size_of]; omega)
    rw [show (ByteArray.mk (Pl.clean s.data.toList).toArray).data.toList = Pl.clean s.data.toList from rfl, HI.out] at this
    exact this
  have HG : ∀ w', Tabs w' → Calls Tryd.prog 9 #[.int .i64 (1 + r), .string ⟨(Pl.clean s.data.toList).toArray⟩] w' fun e w'' => e = .returned (.tuple #[.string ⟨(Pl.escape (1 + r) s.data.toList).toArray⟩, .int .i64 0]) ∧ Below w'.heap.size w' w'' := by
    intro w' h
    have := Escape_any (1 + r) ⟨(Pl.clean s.data.toList).toArray⟩ w' h (by rw [size_of]; omega)
    rw [HErr.out, show (ByteArray.mk (Pl.clean s.data.toList).toArray).data.toList = Pl.clean s.data.toList from rfl, HE2.out] at this
    exact this
  have HX : ∀ w', Calls Tryd.prog 12 #[.int .i64 (1 + r), .string ⟨(Pl.escape (1 + r) s.data.toList).toArray⟩] w' fun e w'' => e = .returned (.string ⟨(Pl.undo (1 + r) (Pl.escape (1 + r) s.data.toList)).toArray⟩) ∧ Below w'.heap.size w' w'' :=
    fun w' => undone_any (1 + r) ⟨(Pl.escape (1 + r) s.data.toList).toArray⟩ w' (by rw [size_of]; omega)
  clear HE2 HErr HI
  generalize hx : Pl.escape (1 + r) s.data.toList = x at HFine HU HE HG HX hl
  generalize hc : Pl.clean s.data.toList = c at HU HC HE HD HG hcl hcs
  clear hx hc
  have HC : Hid (∀ w', Calls Tryd.prog 10 #[.string s] w' fun e w'' => e = .returned (.string ⟨c.toArray⟩) ∧ Below w'.heap.size w' w'') := HC
  have HE : Hid (∀ w', Tabs w' → Calls Tryd.prog 9 #[.int .i64 (1 + r), .string s] w' fun e w'' => e = .returned (.tuple #[.string ⟨x.toArray⟩, .int .i64 0]) ∧ Below w'.heap.size w' w'') := HE
  have HD : Hid (∀ w', Calls Tryd.prog 10 #[.string ⟨c.toArray⟩] w' fun e w'' => e = .returned (.string ⟨c.toArray⟩) ∧ Below w'.heap.size w' w'') := HD
  have HG : Hid (∀ w', Tabs w' → Calls Tryd.prog 9 #[.int .i64 (1 + r), .string ⟨c.toArray⟩] w' fun e w'' => e = .returned (.tuple #[.string ⟨x.toArray⟩, .int .i64 0]) ∧ Below w'.heap.size w' w'') := HG
  have HX : Hid (∀ w', Calls Tryd.prog 12 #[.int .i64 (1 + r), .string ⟨x.toArray⟩] w' fun e w'' => e = .returned (.string ⟨(Pl.undo (1 + r) x).toArray⟩) ∧ Below w'.heap.size w' w'') := HX
  go_wp2_with fail
  refine (HC.out _).mono ?_
  rintro e w2 ⟨rfl, hb2⟩
  have hbw2 := hb1.trans (hb2.mono hz1)
  have hz2 := hbw2.size
  clear hb2 hb1 ht1 hz1
  go_wp2_with fail
  refine (HD.out _).mono ?_
  rintro e w3 ⟨rfl, hb3⟩
  have hbw3 := hbw2.trans (hb3.mono hz2)
  have hz3 := hbw3.size
  have ht3 := ht.kept hbw3 hB
  clear hb3 hbw2 hz2
  go_wp2_with fail
  refine (HE.out _ ht3).mono ?_
  rintro e w4 ⟨rfl, hb4⟩
  have hbw4 := hbw3.trans (hb4.mono hz3)
  have hz4 := hbw4.size
  have ht4 := ht.kept hbw4 hB
  clear hb4 hbw3 hz3 ht3
  go_wp2_with fail
  refine (HG.out _ ht4).mono ?_
  rintro e w5 ⟨rfl, hb5⟩
  have hbw5 := hbw4.trans (hb5.mono hz4)
  have hz5 := hbw5.size
  clear hb5 hbw4 hz4 ht4
  go_wp2_with fail
  have HFk : Hid (∀ (k : Nat) (h : k < x.length), Pl.fine (1 + r) x[k] = true) := fun k h => List.all_eq_true.1 HFine.out _ (List.getElem_mem h)
  go_loop [14] (fun i => ∃ k : Nat, k ≤ x.length ∧ i = .int .i64 k) (fun i => x.length - (intOf i).toNat)
  case atStart => exact ⟨0, Nat.zero_le _, rfl⟩
  case round =>
    obtain ⟨k, hk, rfl⟩ := hrel
    by_cases hlt : k < x.length
    · have hf := fine_num (1 + r) ((ByteArray.mk x.toArray)[k]'hlt) (HFk.out k hlt)
      obtain ⟨f1, f2, f3, f4, f5, f6⟩ := hf
      by_cases h4 : 4 ≤ 1 + r
      · obtain ⟨f7, f8⟩ := f6 h4
        clear f6
        go_wp2_with fail
        go_round
        case rel => exact ⟨k + 1, by omega, by go_num⟩
        case measure => simp [intOf]; omega
      · clear f6
        go_wp2_with fail
        go_round
        case rel => exact ⟨k + 1, by omega, by go_num⟩
        case measure => simp [intOf]; omega
    · by_cases hB2 : r = 1 ∧ x = Pl.blocked ∧ c ≠ x
      · obtain ⟨b1, b2, b3⟩ := hB2
        have e2 : (1 + r == 2) = true := beq_iff_eq.2 (by omega)
        have eb : (x == [35, 98, 108, 111, 99, 107, 101, 100]) = true := beq_iff_eq.2 b2
        have ec : (c == x) = false := beq_eq_false_iff_ne.2 b3
        have hsch : 0 < Pl.schemed c ∧ Pl.lower (c.take (Pl.schemed c)) ≠ Pl.http ∧ Pl.lower (c.take (Pl.schemed c)) ≠ Pl.https ∧ Pl.lower (c.take (Pl.schemed c)) ≠ Pl.mailto := by
          rcases HU.out with q | q
          · exact absurd (by rw [← q, b2, b1]; decide +kernel) b3
          · exact q.2.2
        obtain ⟨j, hj⟩ : ∃ j, Pl.schemed c = j + 1 := ⟨Pl.schemed c - 1, by omega⟩
        have ho : Pl.open0 (Pl.lower (c.take j)) = false := by
          rw [hj, Pl.lower_colon c j hj] at hsch
          simp only [Pl.open0, Bool.or_eq_false_iff, beq_eq_false_iff_ne]
          exact ⟨fun q => hsch.2.1 (by rw [q]; rfl), fun q => hsch.2.2.1 (by rw [q]; rfl), fun q => hsch.2.2.2 (by rw [q]; rfl)⟩
        have HBar : Hid (∀ w', Calls Tryd.prog 11 #[.string ⟨c.toArray⟩] w' fun e w'' => e = .returned (.bool true) ∧ Below w'.heap.size w' w'') := fun w' => barred_any ⟨c.toArray⟩ j w' (by rw [size_of]; omega) hj ho
        clear b1 b2 b3 hsch hj ho
        go_wp2_with fail
        refine (HBar.out _).mono ?_
        rintro e w6 ⟨rfl, hb6⟩
        go_wp2_with fail
        go_ret
        exact ⟨rfl, hbw5.trans (hb6.mono hz5)⟩
      · have HUc : Hid (Pl.undo (1 + r) x = c) := by
          rcases HU.out with q | ⟨q1, q2, q3, _⟩
          · exact q
          · exfalso
            by_cases q : c = x
            · rw [q, q2] at q3
              revert q3; decide +kernel
            · exact hB2 ⟨by omega, q2, q⟩
        have HX2 : Hid (∀ w', Calls Tryd.prog 12 #[.int .i64 (1 + r), .string ⟨x.toArray⟩] w' fun e w'' => e = .returned (.string ⟨c.toArray⟩) ∧ Below w'.heap.size w' w'') := by
          intro w'
          have := HX.out w'
          rw [HUc.out] at this
          exact this
        by_cases b1 : r = 1
        · have e2 : (1 + r == 2) = true := beq_iff_eq.2 (by omega)
          by_cases b2 : x = Pl.blocked
          · have eb : (x == [35, 98, 108, 111, 99, 107, 101, 100]) = true := beq_iff_eq.2 b2
            have ec : (c == x) = true := by
              rw [beq_iff_eq]
              exact Decidable.byContradiction fun q => hB2 ⟨b1, b2, q⟩
            clear b1 b2 hB2
            go_wp2_with fail
            refine (HX2.out _).mono ?_
            rintro e w6 ⟨rfl, hb6⟩
            go_wp2_with fail
            go_ret
            exact ⟨ret_bool (by simp), hbw5.trans (hb6.mono hz5)⟩
          · have eb : (x == [35, 98, 108, 111, 99, 107, 101, 100]) = false := beq_eq_false_iff_ne.2 b2
            clear b1 b2 hB2
            go_wp2_with fail
            refine (HX2.out _).mono ?_
            rintro e w6 ⟨rfl, hb6⟩
            go_wp2_with fail
            go_ret
            exact ⟨ret_bool (by simp), hbw5.trans (hb6.mono hz5)⟩
        · have e2 : (1 + r == 2) = false := beq_eq_false_iff_ne.2 (by omega)
          clear b1 hB2
          go_wp2_with fail
          refine (HX2.out _).mono ?_
          rintro e w6 ⟨rfl, hb6⟩
          go_wp2_with fail
          go_ret
          exact ⟨ret_bool (by simp), hbw5.trans (hb6.mono hz5)⟩

end Go.Proofs.YtfkhljmiehdgmaaDoor
