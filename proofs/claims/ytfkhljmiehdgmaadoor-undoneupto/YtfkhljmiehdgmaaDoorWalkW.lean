/-
  The walks under Undone: a link that is blocked is barred.
-/
import Derived.Test.YtfkhljmiehdgmaaDoorWalkR
import Derived.Test.YtfkhljmiehdgmaaDoorPlainT
namespace Go.Proofs.YtfkhljmiehdgmaaDoor
open Go.RowKit

theorem conv_one (w : World) (x : UInt8) : (convert 41 9 (.slice (some ⟨w.heap.size, 0, none⟩) 1 1)).run Tryd.prog (w.alloc (.cells #[.int .u8 x.toNat] 5)) = .ok (.string ⟨[x].toArray⟩) (w.alloc (.cells #[.int .u8 x.toNat] 5)) := by
  refine run_convert_bytes_back _ 41 9 5 ⟨w.heap.size, 0, none⟩ 1 [x] Tryd.underlying41 Tryd.underlying5 Tryd.underlying9 ?_
  intro j hj
  match j, hj with
  | 0, _ => simp [Addr.add]

set_option maxRecDepth 100000 in
set_option maxHeartbeats 6400000 in
theorem barred_any (s : ByteArray) (k : Nat) (w : World) (hs : s.size ≤ 1000000000) (hk : Pl.schemed s.data.toList = k + 1) (ho : Pl.open0 (Pl.lower (s.data.toList.take k)) = false) :
    Calls Tryd.prog 11 #[.string s] w fun e w' => e = .returned (.bool true) ∧ Below w.heap.size w w' := by
  have hks : k < s.size := by
    have := Pl.schemed_le s.data.toList
    rw [Pl.len_eq] at this; omega
  have hk0 : 0 < k := (Pl.scheme_run _ k hk).2
  have HF : Hid (∀ j, (hj : j < k) → Pl.among (s[j]'(by omega)) Pl.letters = true ∨ (0 < j ∧ Pl.among (s[j]'(by omega)) Pl.digitsPlus = true)) := fun j hj => Pl.scheme_at s k j hk hj (by omega)
  have h58 : s[k].toNat = 58 := by
    have := Pl.schemed_at _ k hk
    rw [Pl.get_at s k hks] at this
    rw [Option.some.inj this]; rfl
  have hc58 : ((s[k].toNat : Int) != 58) = false := by rw [h58]; rfl
  generalize hp : Pl.lower (s.data.toList.take k) = p at ho
  have HP : Hid (Pl.lower (s.data.toList.take k) = p) := hp
  have ho2 : (p == [104, 116, 116, 112]) = false ∧ (p == [104, 116, 116, 112, 115]) = false ∧ (p == [109, 97, 105, 108, 116, 111]) = false := by
    simp only [Pl.open0, Bool.or_eq_false_iff] at ho
    exact ho
  obtain ⟨o1, o2, o3⟩ := ho2
  clear hk h58 hp ho
  go_enter Tryd.func11, Tryd.ntmps11
  go_wp2
  go_loop [3] (fun i => ∃ j : Nat, j ≤ k ∧ i = .int .i64 j) (fun i => k - (intOf i).toNat)
  case atStart => exact ⟨0, by omega, rfl⟩
  case round =>
    obtain ⟨j, hjk, rfl⟩ := hrel
    by_cases hlt : j < k
    · have hjs : j < s.size := by omega
      have hne : ((s[j].toNat : Int) != 58) = true := by
        rw [bne_iff_ne]
        rcases HF.out j hlt with q | ⟨_, q⟩
        · have := Pl.letter_num _ q; omega
        · have := Pl.digit_num _ q; omega
      go_wp2
      go_round
      case rel => exact ⟨j + 1, by omega, by go_num⟩
      case measure => simp [intOf]; omega
    · obtain rfl : j = k := by omega
      have e1 : ((j : Int) == 0) = false := beq_eq_false_iff_ne.2 (by omega)
      have e2 : ((j : Int) == (s.size : Int)) = false := beq_eq_false_iff_ne.2 (by omega)
      go_wp2
      go_loopw [4, 5] (fun o c wr => ∃ i : Nat, i ≤ j ∧ c = .int .i64 i ∧ o = .string ⟨(Pl.lower (s.data.toList.take i)).toArray⟩ ∧ Below w.heap.size w wr) (fun _ c _ => j - (intOf c).toNat)
      case atStart => exact ⟨0, by omega, rfl, rfl, Below.refl _ _⟩
      case round =>
        obtain ⟨i, hij, rfl, rfl, hbw⟩ := hrel
        have hz := hbw.size
        have hL : (Pl.lower (s.data.toList.take i)).length ≤ 1000000000 := by
          unfold Pl.lower; rw [List.length_map, List.length_take]; omega
        by_cases hlt2 : i < j
        · have his : i < s.size := by omega
          have HL : Hid (Pl.lower (s.data.toList.take (i + 1)) = _) := Pl.lower_snoc s i his
          have hcv := conv_one wr (Pl.small s[i])
          rcases HF.out i hlt2 with q | ⟨hi0, q⟩
          · rcases Pl.letter_num _ q with ⟨q1, q2⟩ | ⟨q1, q2⟩
            · have e3 := Pl.small_up s[i] q1 q2
              rw [e3] at hcv
              clear e3 q
              go_wp2
              go_roundw
              case rel =>
                refine ⟨i + 1, by omega, by go_num, congrArg Value.string (by rw [HL.out, ← Pl.cat_eq]), ?_⟩
                repeat (first | exact hbw | exact hbw.alloc hz _ | apply Below.drew)
              case measure => simp [intOf]; omega
            · have e3 := Pl.small_id s[i] (by omega)
              rw [e3] at hcv
              have HL2 : Hid (Pl.lower (s.data.toList.take (i + 1)) = Pl.lower (s.data.toList.take i) ++ [s[i]]) := by show _ = _; rw [HL.out, e3]
              clear e3 q
              go_wp2
              go_roundw
              case rel =>
                refine ⟨i + 1, by omega, by go_num, congrArg Value.string (by rw [HL2.out, ← Pl.cat_eq]), ?_⟩
                repeat (first | exact hbw | exact hbw.alloc hz _ | apply Below.drew)
              case measure => simp [intOf]; omega
          · have q := Pl.digit_num _ q
            have e3 := Pl.small_id s[i] (by omega)
            rw [e3] at hcv
            have HL2 : Hid (Pl.lower (s.data.toList.take (i + 1)) = Pl.lower (s.data.toList.take i) ++ [s[i]]) := by show _ = _; rw [HL.out, e3]
            have i0 : ((i : Int) == 0) = false := beq_eq_false_iff_ne.2 (by omega)
            clear e3
            rcases q with ⟨q1, q2⟩ | q | q | q
            · have f1 : ((s[i].toNat : Int) == 43) = false := beq_eq_false_iff_ne.2 (by omega)
              have f2 : ((s[i].toNat : Int) == 45) = false := beq_eq_false_iff_ne.2 (by omega)
              have f3 : ((s[i].toNat : Int) == 46) = false := beq_eq_false_iff_ne.2 (by omega)
              go_wp2
              go_roundw
              case rel =>
                refine ⟨i + 1, by omega, by go_num, congrArg Value.string (by rw [HL2.out, ← Pl.cat_eq]), ?_⟩
                repeat (first | exact hbw | exact hbw.alloc hz _ | apply Below.drew)
              case measure => simp [intOf]; omega
            · have g1 : s[i].toNat ≤ 46 := by omega
              have f1 : ((s[i].toNat : Int) == 43) = true := beq_iff_eq.2 (by omega)
              have f2 : ((s[i].toNat : Int) == 45) = false := beq_eq_false_iff_ne.2 (by omega)
              have f3 : ((s[i].toNat : Int) == 46) = false := beq_eq_false_iff_ne.2 (by omega)
              clear q
              go_wp2
              go_roundw
              case rel =>
                refine ⟨i + 1, by omega, by go_num, congrArg Value.string (by rw [HL2.out, ← Pl.cat_eq]), ?_⟩
                repeat (first | exact hbw | exact hbw.alloc hz _ | apply Below.drew)
              case measure => simp [intOf]; omega
            · have g1 : s[i].toNat ≤ 46 := by omega
              have f1 : ((s[i].toNat : Int) == 43) = false := beq_eq_false_iff_ne.2 (by omega)
              have f2 : ((s[i].toNat : Int) == 45) = true := beq_iff_eq.2 (by omega)
              have f3 : ((s[i].toNat : Int) == 46) = false := beq_eq_false_iff_ne.2 (by omega)
              clear q
              go_wp2
              go_roundw
              case rel =>
                refine ⟨i + 1, by omega, by go_num, congrArg Value.string (by rw [HL2.out, ← Pl.cat_eq]), ?_⟩
                repeat (first | exact hbw | exact hbw.alloc hz _ | apply Below.drew)
              case measure => simp [intOf]; omega
            · have g1 : s[i].toNat ≤ 46 := by omega
              have f1 : ((s[i].toNat : Int) == 43) = false := beq_eq_false_iff_ne.2 (by omega)
              have f2 : ((s[i].toNat : Int) == 45) = false := beq_eq_false_iff_ne.2 (by omega)
              have f3 : ((s[i].toNat : Int) == 46) = true := beq_iff_eq.2 (by omega)
              clear q
              go_wp2
              go_roundw
              case rel =>
                refine ⟨i + 1, by omega, by go_num, congrArg Value.string (by rw [HL2.out, ← Pl.cat_eq]), ?_⟩
                repeat (first | exact hbw | exact hbw.alloc hz _ | apply Below.drew)
              case measure => simp [intOf]; omega
        · obtain rfl : i = j := by omega
          rw [HP.out]
          go_wp2
          go_ret
          exact ⟨rfl, hbw⟩

end Go.Proofs.YtfkhljmiehdgmaaDoor
