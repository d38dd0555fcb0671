/-
  The walks under Undone: references undone.
-/
import Derived.Test.YtfkhljmiehdgmaaDoorWalkR
import Derived.Test.YtfkhljmiehdgmaaDoorPlainS
namespace Go.Proofs.YtfkhljmiehdgmaaDoor
open Go.RowKit

set_option maxRecDepth 100000 in
set_option maxHeartbeats 6400000 in
theorem references_any (s : ByteArray) (w : World) (hs : s.size ≤ 1000000000) :
    Calls Tryd.prog 22 #[.string s] w fun e w' => e = .returned (.string ⟨(Pl.refs s.data.toList).toArray⟩) ∧ Below w.heap.size w w' := by
  go_enter Tryd.func22, Tryd.ntmps22
  go_wp2
  go_loopw [5, 6] (fun o i wr => ∃ (k : Nat) (acc : List UInt8), k ≤ s.size ∧ i = .int .i64 k ∧ o = .string ⟨acc.toArray⟩ ∧ Below w.heap.size w wr ∧ (∀ j v, (#[Value.string ⟨#[38, 97, 109, 112, 59]⟩, .string ⟨#[38, 108, 116, 59]⟩, .string ⟨#[38, 103, 116, 59]⟩, .string ⟨#[38, 113, 117, 111, 116, 59]⟩, .string ⟨#[38, 35, 51, 57, 59]⟩] : Array Value)[j]? = some v → wr.cell? ⟨w.heap.size, j, none⟩ = some v) ∧ acc ++ Pl.refs (s.data.toList.drop k) = Pl.refs s.data.toList ∧ acc.length ≤ k) (fun _ i _ => s.size - (intOf i).toNat)
  case atStart =>
    refine ⟨0, [], Nat.zero_le _, rfl, rfl, (Below.refl _ _).alloc (Nat.le_refl _) _, ?_, rfl, by simp⟩
    intro j v hj
    simpa using hj
  case round =>
    obtain ⟨k, acc, hk, rfl, rfl, hbw, hcl, hacc, hal⟩ := hrel
    have HA : Hid (acc ++ Pl.refs (s.data.toList.drop k) = Pl.refs s.data.toList) := hacc
    have HCl : Hid (∀ j v, (#[Value.string ⟨#[38, 97, 109, 112, 59]⟩, .string ⟨#[38, 108, 116, 59]⟩, .string ⟨#[38, 103, 116, 59]⟩, .string ⟨#[38, 113, 117, 111, 116, 59]⟩, .string ⟨#[38, 35, 51, 57, 59]⟩] : Array Value)[j]? = some v → wr.cell? ⟨w.heap.size, j, none⟩ = some v) := hcl
    have n0 := hcl 0 _ rfl
    have n1 := hcl 1 _ rfl
    have n2 := hcl 2 _ rfl
    have n3 := hcl 3 _ rfl
    have n4 := hcl 4 _ rfl
    clear hacc hcl
    by_cases hlt : k < s.size
    · go_wp2_with fail
      go_loop [5, 6, 7, 8] (fun o i f c => (∃ q : Nat, q ≤ 5 ∧ c = .int .i64 q ∧ f = .bool false ∧ i = .int .i64 k ∧ o = .string ⟨acc.toArray⟩ ∧ (Pl.refNames.take q).find? (Pl.refFits (s.data.toList.drop k)) = none) ∨
          (∃ (q n : Nat) (x : UInt8), q ≤ 5 ∧ c = .int .i64 q ∧ f = .bool true ∧ i = .int .i64 (k + (n - 1) : Int) ∧ o = .string ⟨(acc ++ [x]).toArray⟩ ∧ 0 < n ∧ k + n ≤ s.size ∧ Pl.refs (s.data.toList.drop k) = x :: Pl.refs (s.data.toList.drop (k + n)))) (fun _ _ _ c => 5 - (intOf c).toNat)
      case atStart => exact .inl ⟨0, by omega, rfl, rfl, rfl, rfl, rfl⟩
      case round =>
        rcases hrel with ⟨q, hq, rfl, rfl, rfl, rfl, hn⟩ | ⟨q, n, x, hq, rfl, rfl, rfl, rfl, hn0, hkn, hst⟩
        · have HN : Hid ((Pl.refNames.take q).find? (Pl.refFits (s.data.toList.drop k)) = none) := hn
          clear hn
          rcases (show q = 0 ∨ q = 1 ∨ q = 2 ∨ q = 3 ∨ q = 4 ∨ q = 5 by omega) with rfl | rfl | rfl | rfl | rfl | rfl
          · by_cases hle : k + 5 ≤ s.size
            · by_cases he : ((s.extract k (k + 5)).toList == [38, 97, 109, 112, 59]) = true
              · have HS : Hid (Pl.refs (s.data.toList.drop k) = 38 :: Pl.refs (s.data.toList.drop (k + 5))) :=
                  Pl.refs_step s k 5 hlt ([38, 97, 109, 112, 59], 38) rfl (by omega) (Pl.ref_here _ 0 _ rfl HN.out (Pl.ref_yes s k 5 ([38, 97, 109, 112, 59], 38) rfl he))
                go_wp2
                go_round
                case rel => exact .inr ⟨1, 5, 38, by omega, rfl, rfl, by go_num, congrArg Value.string (Pl.cat_eq acc [38]), by omega, by omega, HS.out⟩
                case measure => simp [intOf]
              · have he : ((s.extract k (k + 5)).toList == [38, 97, 109, 112, 59]) = false := Bool.eq_false_iff.2 he
                have HM : Hid ((Pl.refNames.take (0 + 1)).find? (Pl.refFits (s.data.toList.drop k)) = none) := Pl.ref_snoc _ 0 _ rfl HN.out (Pl.ref_no s k 5 ([38, 97, 109, 112, 59], 38) rfl he)
                go_wp2
                go_round
                case rel => exact .inl ⟨1, by omega, rfl, rfl, rfl, rfl, HM.out⟩
                case measure => simp [intOf]
            · have HM : Hid ((Pl.refNames.take (0 + 1)).find? (Pl.refFits (s.data.toList.drop k)) = none) := Pl.ref_snoc _ 0 _ rfl HN.out (Pl.ref_short s k 5 ([38, 97, 109, 112, 59], 38) rfl (by omega) (by omega))
              go_wp2
              go_round
              case rel => exact .inl ⟨1, by omega, rfl, rfl, rfl, rfl, HM.out⟩
              case measure => simp [intOf]
          · by_cases hle : k + 4 ≤ s.size
            · by_cases he : ((s.extract k (k + 4)).toList == [38, 108, 116, 59]) = true
              · have HS : Hid (Pl.refs (s.data.toList.drop k) = 60 :: Pl.refs (s.data.toList.drop (k + 4))) :=
                  Pl.refs_step s k 4 hlt ([38, 108, 116, 59], 60) rfl (by omega) (Pl.ref_here _ 1 _ rfl HN.out (Pl.ref_yes s k 4 ([38, 108, 116, 59], 60) rfl he))
                go_wp2
                go_round
                case rel => exact .inr ⟨2, 4, 60, by omega, rfl, rfl, by go_num, congrArg Value.string (Pl.cat_eq acc [60]), by omega, by omega, HS.out⟩
                case measure => simp [intOf]
              · have he : ((s.extract k (k + 4)).toList == [38, 108, 116, 59]) = false := Bool.eq_false_iff.2 he
                have HM : Hid ((Pl.refNames.take (1 + 1)).find? (Pl.refFits (s.data.toList.drop k)) = none) := Pl.ref_snoc _ 1 _ rfl HN.out (Pl.ref_no s k 4 ([38, 108, 116, 59], 60) rfl he)
                go_wp2
                go_round
                case rel => exact .inl ⟨2, by omega, rfl, rfl, rfl, rfl, HM.out⟩
                case measure => simp [intOf]
            · have HM : Hid ((Pl.refNames.take (1 + 1)).find? (Pl.refFits (s.data.toList.drop k)) = none) := Pl.ref_snoc _ 1 _ rfl HN.out (Pl.ref_short s k 4 ([38, 108, 116, 59], 60) rfl (by omega) (by omega))
              go_wp2
              go_round
              case rel => exact .inl ⟨2, by omega, rfl, rfl, rfl, rfl, HM.out⟩
              case measure => simp [intOf]
          · by_cases hle : k + 4 ≤ s.size
            · by_cases he : ((s.extract k (k + 4)).toList == [38, 103, 116, 59]) = true
              · have HS : Hid (Pl.refs (s.data.toList.drop k) = 62 :: Pl.refs (s.data.toList.drop (k + 4))) :=
                  Pl.refs_step s k 4 hlt ([38, 103, 116, 59], 62) rfl (by omega) (Pl.ref_here _ 2 _ rfl HN.out (Pl.ref_yes s k 4 ([38, 103, 116, 59], 62) rfl he))
                go_wp2
                go_round
                case rel => exact .inr ⟨3, 4, 62, by omega, rfl, rfl, by go_num, congrArg Value.string (Pl.cat_eq acc [62]), by omega, by omega, HS.out⟩
                case measure => simp [intOf]
              · have he : ((s.extract k (k + 4)).toList == [38, 103, 116, 59]) = false := Bool.eq_false_iff.2 he
                have HM : Hid ((Pl.refNames.take (2 + 1)).find? (Pl.refFits (s.data.toList.drop k)) = none) := Pl.ref_snoc _ 2 _ rfl HN.out (Pl.ref_no s k 4 ([38, 103, 116, 59], 62) rfl he)
                go_wp2
                go_round
                case rel => exact .inl ⟨3, by omega, rfl, rfl, rfl, rfl, HM.out⟩
                case measure => simp [intOf]
            · have HM : Hid ((Pl.refNames.take (2 + 1)).find? (Pl.refFits (s.data.toList.drop k)) = none) := Pl.ref_snoc _ 2 _ rfl HN.out (Pl.ref_short s k 4 ([38, 103, 116, 59], 62) rfl (by omega) (by omega))
              go_wp2
              go_round
              case rel => exact .inl ⟨3, by omega, rfl, rfl, rfl, rfl, HM.out⟩
              case measure => simp [intOf]
          · by_cases hle : k + 6 ≤ s.size
            · by_cases he : ((s.extract k (k + 6)).toList == [38, 113, 117, 111, 116, 59]) = true
              · have HS : Hid (Pl.refs (s.data.toList.drop k) = 34 :: Pl.refs (s.data.toList.drop (k + 6))) :=
                  Pl.refs_step s k 6 hlt ([38, 113, 117, 111, 116, 59], 34) rfl (by omega) (Pl.ref_here _ 3 _ rfl HN.out (Pl.ref_yes s k 6 ([38, 113, 117, 111, 116, 59], 34) rfl he))
                go_wp2
                go_round
                case rel => exact .inr ⟨4, 6, 34, by omega, rfl, rfl, by go_num, congrArg Value.string (Pl.cat_eq acc [34]), by omega, by omega, HS.out⟩
                case measure => simp [intOf]
              · have he : ((s.extract k (k + 6)).toList == [38, 113, 117, 111, 116, 59]) = false := Bool.eq_false_iff.2 he
                have HM : Hid ((Pl.refNames.take (3 + 1)).find? (Pl.refFits (s.data.toList.drop k)) = none) := Pl.ref_snoc _ 3 _ rfl HN.out (Pl.ref_no s k 6 ([38, 113, 117, 111, 116, 59], 34) rfl he)
                go_wp2
                go_round
                case rel => exact .inl ⟨4, by omega, rfl, rfl, rfl, rfl, HM.out⟩
                case measure => simp [intOf]
            · have HM : Hid ((Pl.refNames.take (3 + 1)).find? (Pl.refFits (s.data.toList.drop k)) = none) := Pl.ref_snoc _ 3 _ rfl HN.out (Pl.ref_short s k 6 ([38, 113, 117, 111, 116, 59], 34) rfl (by omega) (by omega))
              go_wp2
              go_round
              case rel => exact .inl ⟨4, by omega, rfl, rfl, rfl, rfl, HM.out⟩
              case measure => simp [intOf]
          · by_cases hle : k + 5 ≤ s.size
            · by_cases he : ((s.extract k (k + 5)).toList == [38, 35, 51, 57, 59]) = true
              · have HS : Hid (Pl.refs (s.data.toList.drop k) = 39 :: Pl.refs (s.data.toList.drop (k + 5))) :=
                  Pl.refs_step s k 5 hlt ([38, 35, 51, 57, 59], 39) rfl (by omega) (Pl.ref_here _ 4 _ rfl HN.out (Pl.ref_yes s k 5 ([38, 35, 51, 57, 59], 39) rfl he))
                go_wp2
                go_round
                case rel => exact .inr ⟨5, 5, 39, by omega, rfl, rfl, by go_num, congrArg Value.string (Pl.cat_eq acc [39]), by omega, by omega, HS.out⟩
                case measure => simp [intOf]
              · have he : ((s.extract k (k + 5)).toList == [38, 35, 51, 57, 59]) = false := Bool.eq_false_iff.2 he
                have HM : Hid ((Pl.refNames.take (4 + 1)).find? (Pl.refFits (s.data.toList.drop k)) = none) := Pl.ref_snoc _ 4 _ rfl HN.out (Pl.ref_no s k 5 ([38, 35, 51, 57, 59], 39) rfl he)
                go_wp2
                go_round
                case rel => exact .inl ⟨5, by omega, rfl, rfl, rfl, rfl, HM.out⟩
                case measure => simp [intOf]
            · have HM : Hid ((Pl.refNames.take (4 + 1)).find? (Pl.refFits (s.data.toList.drop k)) = none) := Pl.ref_snoc _ 4 _ rfl HN.out (Pl.ref_short s k 5 ([38, 35, 51, 57, 59], 39) rfl (by omega) (by omega))
              go_wp2
              go_round
              case rel => exact .inl ⟨5, by omega, rfl, rfl, rfl, rfl, HM.out⟩
              case measure => simp [intOf]
          · have HS : Hid (Pl.refs (s.data.toList.drop k) = s[k] :: Pl.refs (s.data.toList.drop (k + 1))) := Pl.refs_other s k hlt (Pl.ref_over _ HN.out)
            go_wp2
            go_roundw
            case rel => exact ⟨k + 1, acc ++ [s[k]], by omega, by go_num, congrArg Value.string (by rw [Pl.extract_one s k hlt, Pl.cat_eq]), hbw, HCl.out, by rw [List.append_assoc, ← HA.out, HS.out]; rfl, by simp; omega⟩
            case measure => simp [intOf]; omega
        · have HS : Hid (Pl.refs (s.data.toList.drop k) = x :: Pl.refs (s.data.toList.drop (k + n))) := hst
          clear hst
          by_cases h5 : q < 5
          all_goals
            go_wp2
            go_roundw
            case rel => exact ⟨k + n, acc ++ [x], by omega, by go_num, rfl, hbw, HCl.out, by rw [List.append_assoc, ← HA.out, HS.out]; rfl, by simp; omega⟩
            case measure => simp [intOf]; omega
    · have e0 : acc = Pl.refs s.data.toList := by
        have := HA.out
        rw [Pl.drop_end s k hlt, Pl.refs_nil, List.append_nil] at this
        exact this
      subst e0
      go_wp2
      go_ret
      exact ⟨rfl, hbw⟩

end Go.Proofs.YtfkhljmiehdgmaaDoor
