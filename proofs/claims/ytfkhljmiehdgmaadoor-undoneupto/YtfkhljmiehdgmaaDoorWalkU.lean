/-
  The walks under Undone: the escapes of a sheet undone.
-/
import Derived.Test.YtfkhljmiehdgmaaDoorWalkS
namespace Go.Proofs.YtfkhljmiehdgmaaDoor
open Go.RowKit

set_option maxRecDepth 100000 in
set_option maxHeartbeats 3200000 in
theorem sheets_any (s : ByteArray) (w : World) (hs : s.size ≤ 1000000000) :
    Calls Tryd.prog 24 #[.string s] w fun e w' => e = .returned (.string ⟨(Pl.shes s.data.toList).toArray⟩) ∧ Below w.heap.size w w' := by
  obtain ⟨i0, hi, hz0, hz1, hz2⟩ := info_parts info_u8c
  go_enter Tryd.func24, Tryd.ntmps24
  go_wp2
  go_loopw [3, 4] (fun v i wr => ∃ (k : Nat) (acc : List UInt8), k ≤ s.size ∧ i = .int .i64 k ∧ wr.ownsRow w.heap.size 5 1 v acc.length (Lib.byteCells acc) ∧ Below w.heap.size w wr ∧ acc ++ Pl.shes (s.data.toList.drop k) = Pl.shes s.data.toList ∧ acc.length ≤ k) (fun _ i _ => s.size - (intOf i).toNat)
  case atStart => exact ⟨0, [], Nat.zero_le _, rfl, World.ownsRow_nil _ _ _ _, Below.refl _ _, rfl, by simp⟩
  case round =>
    obtain ⟨k, acc, hk, rfl, hown, hbw, hacc, hal⟩ := hrel
    have HA : Hid (acc ++ Pl.shes (s.data.toList.drop k) = Pl.shes s.data.toList) := hacc
    clear hacc
    have hz := hbw.size
    by_cases hlt : k < s.size
    · by_cases h92 : s[k].toNat = 92
      · have HB : Hid (acc ++ (Pl.byteOf (Pl.hexRun (s.data.toList.drop (k + 1)) 0).1 :: Pl.shes (Pl.blankOff (Pl.hexRun (s.data.toList.drop (k + 1)) 0).2)) = Pl.shes s.data.toList) := by
          show _ = _
          rw [← HA.out, Pl.drop_at s k hlt, Pl.shes_cons, if_neg]
          exact fun q => q (UInt8.toNat_inj.1 (by simpa using h92))
        have h1 : ((s[k].toNat : Int) != 92) = false := by rw [h92]; rfl
        clear h92
        go_wp2_with fail
        go_loop [4, 5] (fun i n => ∃ (j : Nat) (m : Int), k ≤ j ∧ j < s.size ∧ i = .int .i64 j ∧ n = .int .i64 m ∧ Pl.hexRun (s.data.toList.drop (k + 1)) 0 = Pl.hexRun (s.data.toList.drop (j + 1)) m ∧ -9223372036854775808 ≤ m ∧ m ≤ 9223372036854775807) (fun i _ => s.size - (intOf i).toNat)
        case atStart => exact ⟨k, 0, Nat.le_refl _, hlt, rfl, rfl, rfl, by omega, by omega⟩
        case round =>
          obtain ⟨j, m, hkj, hjs, rfl, rfl, hrun, hm0, hm1⟩ := hrel
          have HR : Hid (Pl.hexRun (s.data.toList.drop (k + 1)) 0 = Pl.hexRun (s.data.toList.drop (j + 1)) m) := hrun
          clear hrun
          by_cases hj1 : j + 1 < s.size
          · have hle := Pl.hexDig_le (s[j + 1]'hj1)
            by_cases hd : 0 ≤ Pl.hexDig (s[j + 1]'hj1)
            · have HN : Hid (Pl.hexRun (s.data.toList.drop (j + 1)) m = Pl.hexRun (s.data.toList.drop (j + 2)) (IntKind.i64.wrap (16 * m + Pl.hexDig (s[j + 1]'hj1)))) := by
                show _ = _; rw [Pl.drop_at s (j + 1) hj1, Pl.run_more _ _ _ hd]; rfl
              go_wp2_with (first | (go_at_call 43; refine (keepDigit_any (s[j + 1]'hj1) _).mono ?_; rintro e w' ⟨rfl, rfl⟩))
              go_round
              case rel =>
                have e : wrap64 (wrap64 (16 * m) + Pl.hexDig (s[j + 1]'hj1)) = IntKind.i64.wrap (16 * m + Pl.hexDig (s[j + 1]'hj1)) := by
                  unfold wrap64; rw [IntKind.wrap_i64]; omega
                refine ⟨j + 1, _, by omega, by omega, by go_num, rfl, by rw [HR.out, HN.out, e], ?_, ?_⟩
                · unfold wrap64; omega
                · unfold wrap64; omega
              case measure => simp [intOf]; omega
            · have HE : Hid (Pl.hexRun (s.data.toList.drop (j + 1)) m = (m, s.data.toList.drop (j + 1))) := by
                show _ = _; rw [Pl.drop_at s (j + 1) hj1, Pl.hexRun, if_pos (by omega)]
              by_cases h32 : (s[j + 1]'hj1).toNat = 32
              · have HO : Hid (Pl.blankOff (s.data.toList.drop (j + 1)) = s.data.toList.drop (j + 2)) := by
                  show _ = _; rw [Pl.drop_at s (j + 1) hj1, show s[j + 1]'hj1 = 32 from UInt8.toNat_inj.1 (by simpa using h32)]; rfl
                have hb32 : (((s[j + 1]'hj1).toNat : Int) == 32) = true := beq_iff_eq.2 (by omega)
                have HB : Hid (acc ++ ([Pl.byteOf m] ++ Pl.shes (s.data.toList.drop (j + 2))) = Pl.shes s.data.toList) := by
                  have := HB.out
                  rw [HR.out, HE.out, HO.out] at this
                  exact this
                clear h32
                go_wp2_with (first | (go_at_call 43; refine (keepDigit_any (s[j + 1]'hj1) _).mono ?_; rintro e w' ⟨rfl, rfl⟩) | (at_builtin; refine wpList_append_own _ rfl _ _ 41 rfl w.heap.size 5 i0 (.int .u8 0) 1 1 Tryd.underlying41 hi hz0 hz1 hz2 rfl (by decide) _ _ _ rfl (hown.alloc _) ⟨wr.heap.size, 0, none⟩ 1 1 [.int .u8 (m % 256)] rfl rfl ?a1 ?a2 ?a3 ?a4 ?a5 ?_))
                case a1 =>
                  intro j u hj
                  match j, hj with
                  | 0, hj => simp at hj; subst hj; simp [Addr.add]
                case a2 => intro u hu; simp at hu; subst hu; rfl
                case a3 => unfold maxLen; omega
                case a4 => omega
                case a5 => simp; omega
                · intro v' w1 hown' hgrow _
                  have hb1 : Below w.heap.size w w1 := below_grown (hbw.alloc hz _) (hown.alloc _) hgrow (by simp; omega)
                  go_wp2
                  go_roundw
                  case rel =>
                    refine ⟨j + 2, acc ++ [Pl.byteOf m], by omega, by go_num, ?_, hb1, by rw [List.append_assoc]; exact HB.out, by simp; omega⟩
                    rw [byteCells_snoc1, List.length_append, byteOf_int]
                    exact hown'
                  case measure => simp [intOf]; omega
              · have HO : Hid (Pl.blankOff (s.data.toList.drop (j + 1)) = s.data.toList.drop (j + 1)) := by
                  show _ = _
                  rw [Pl.drop_at s (j + 1) hj1]
                  exact Pl.blankOff_other _ _ (fun q => h32 (by rw [q]; rfl))
                have hb32 : (((s[j + 1]'hj1).toNat : Int) == 32) = false := beq_eq_false_iff_ne.2 (by omega)
                have HB : Hid (acc ++ ([Pl.byteOf m] ++ Pl.shes (s.data.toList.drop (j + 1))) = Pl.shes s.data.toList) := by
                  have := HB.out
                  rw [HR.out, HE.out, HO.out] at this
                  exact this
                clear h32
                go_wp2_with (first | (go_at_call 43; refine (keepDigit_any (s[j + 1]'hj1) _).mono ?_; rintro e w' ⟨rfl, rfl⟩) | (at_builtin; refine wpList_append_own _ rfl _ _ 41 rfl w.heap.size 5 i0 (.int .u8 0) 1 1 Tryd.underlying41 hi hz0 hz1 hz2 rfl (by decide) _ _ _ rfl (hown.alloc _) ⟨wr.heap.size, 0, none⟩ 1 1 [.int .u8 (m % 256)] rfl rfl ?b1 ?b2 ?b3 ?b4 ?b5 ?_))
                case b1 =>
                  intro j u hj
                  match j, hj with
                  | 0, hj => simp at hj; subst hj; simp [Addr.add]
                case b2 => intro u hu; simp at hu; subst hu; rfl
                case b3 => unfold maxLen; omega
                case b4 => omega
                case b5 => simp; omega
                · intro v' w1 hown' hgrow _
                  have hb1 : Below w.heap.size w w1 := below_grown (hbw.alloc hz _) (hown.alloc _) hgrow (by simp; omega)
                  go_wp2
                  go_roundw
                  case rel =>
                    refine ⟨j + 1, acc ++ [Pl.byteOf m], by omega, by go_num, ?_, hb1, by rw [List.append_assoc]; exact HB.out, by simp; omega⟩
                    rw [byteCells_snoc1, List.length_append, byteOf_int]
                    exact hown'
                  case measure => simp [intOf]; omega
          · have HE : Hid (Pl.hexRun (s.data.toList.drop (j + 1)) m = (m, [])) := by
              show _ = _; rw [Pl.drop_end s (j + 1) hj1]; rfl
            have HB : Hid (acc ++ ([Pl.byteOf m] ++ Pl.shes (s.data.toList.drop (j + 1))) = Pl.shes s.data.toList) := by
              have := HB.out
              rw [HR.out, HE.out] at this
              rw [Pl.drop_end s (j + 1) hj1]
              exact this
            go_wp2_with (first | (at_builtin; refine wpList_append_own _ rfl _ _ 41 rfl w.heap.size 5 i0 (.int .u8 0) 1 1 Tryd.underlying41 hi hz0 hz1 hz2 rfl (by decide) _ _ _ rfl (hown.alloc _) ⟨wr.heap.size, 0, none⟩ 1 1 [.int .u8 (m % 256)] rfl rfl ?d1 ?d2 ?d3 ?d4 ?d5 ?_))
            case d2 => rfl
            case d3 => unfold maxLen; omega
            case d4 => omega
            case d5 => omega
            · intro v' w1 hown' hgrow _
              have hb1 : Below w.heap.size w w1 := below_grown (hbw.alloc hz _) (hown.alloc _) hgrow (by simp; omega)
              go_wp2
              go_roundw
              case rel =>
                refine ⟨j + 1, acc ++ [Pl.byteOf m], by omega, by go_num, ?_, hb1, by rw [List.append_assoc]; exact HB.out, by simp; omega⟩
                rw [byteCells_snoc1, List.length_append, byteOf_int]
                exact hown'
              case measure => simp [intOf]; omega
      · have HB : Hid (acc ++ ([s[k]] ++ Pl.shes (s.data.toList.drop (k + 1))) = Pl.shes s.data.toList) := by
          show _ = _
          rw [← HA.out, Pl.drop_at s k hlt, Pl.shes_cons, if_pos (fun q => h92 (by rw [q]; rfl))]; rfl
        have h1 : ((s[k].toNat : Int) != 92) = true := by rw [bne_iff_ne]; omega
        clear h92
        go_wp2_with (first | (at_builtin; refine wpList_append_own _ rfl _ _ 41 rfl w.heap.size 5 i0 (.int .u8 0) 1 1 Tryd.underlying41 hi hz0 hz1 hz2 rfl (by decide) _ _ _ rfl (hown.alloc _) ⟨wr.heap.size, 0, none⟩ 1 1 [.int .u8 s[k].toNat] rfl rfl ?e1 ?e2 ?e3 ?e4 ?e5 ?_))
        case e1 =>
          intro j u hj
          match j, hj with
          | 0, hj => simp at hj; subst hj; simp [Addr.add]
        case e2 => intro u hu; simp at hu; subst hu; rfl
        case e3 => unfold maxLen; omega
        case e4 => omega
        case e5 => simp; omega
        · intro v' w1 hown' hgrow _
          have hb1 : Below w.heap.size w w1 := below_grown (hbw.alloc hz _) (hown.alloc _) hgrow (by simp; omega)
          go_wp2
          go_roundw
          case rel =>
            refine ⟨k + 1, acc ++ [s[k]], by omega, by go_num, ?_, hb1, by rw [List.append_assoc]; exact HB.out, by simp; omega⟩
            rw [byteCells_snoc1, List.length_append]
            exact hown'
          case measure => simp [intOf]; omega
    · have e0 : acc = Pl.shes s.data.toList := by
        have := HA.out
        rw [Pl.drop_end s k hlt] at this
        simpa [Pl.shes, Pl.sheF] using this
      subst e0
      have hcv := conv_own (P := Tryd.prog) wr 41 9 5 Tryd.underlying41 Tryd.underlying5 Tryd.underlying9 w.heap.size _ _ hown
      go_wp2
      go_ret
      exact ⟨rfl, hbw⟩

end Go.Proofs.YtfkhljmiehdgmaaDoor
