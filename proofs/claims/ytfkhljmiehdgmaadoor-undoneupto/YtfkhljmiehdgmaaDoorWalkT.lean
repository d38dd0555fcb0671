/-
  The walks under Undone: the escapes of a script undone.
-/
import Derived.Test.YtfkhljmiehdgmaaDoorWalkS
import Derived.Test.YtfkhljmiehdgmaaDoorWalkE
namespace Go.Proofs.YtfkhljmiehdgmaaDoor
open Go.RowKit

theorem u202 (s : ByteArray) (k : Nat) : (s.data.toList.drop (k + 1)).take 4 = (s.extract (k + 1) (k + 5)).data.toList := by
  rw [ByteArray.data_extract, Array.toList_extract, List.extract_eq_take_drop]
  congr 1; omega
theorem digit_off (b : UInt8) : (((160 + b - 48 : UInt8)).toNat : Int) = (160 + (b.toNat : Int) - 48) % 256 := by
  have := Pl.all_u8 (fun b => decide ((((160 + b - 48 : UInt8)).toNat : Int) = (160 + (b.toNat : Int) - 48) % 256)) (by decide +kernel) b
  simpa using this

set_option maxRecDepth 100000 in
set_option maxHeartbeats 3200000 in
theorem strokes_any (s : ByteArray) (w : World) (hs : s.size ≤ 1000000000) :
    Calls Tryd.prog 23 #[.string s] w fun e w' => e = .returned (.string ⟨(Pl.strs s.data.toList).toArray⟩) ∧ Below w.heap.size w w' := by
  obtain ⟨i0, hi, hz0, hz1, hz2⟩ := info_parts info_u8c
  go_enter Tryd.func23, Tryd.ntmps23
  go_wp2
  go_loopw [3, 4] (fun v i wr => ∃ (k : Nat) (acc : List UInt8), k ≤ s.size ∧ i = .int .i64 k ∧ wr.ownsRow w.heap.size 5 1 v acc.length (Lib.byteCells acc) ∧ Below w.heap.size w wr ∧ acc ++ Pl.strs (s.data.toList.drop k) = Pl.strs s.data.toList ∧ acc.length ≤ k) (fun _ i _ => s.size - (intOf i).toNat)
  case atStart => exact ⟨0, [], Nat.zero_le _, rfl, World.ownsRow_nil _ _ _ _, Below.refl _ _, rfl, by simp⟩
  case round =>
    obtain ⟨k, acc, hk, rfl, hown, hbw, hacc, hal⟩ := hrel
    have HA : Hid (acc ++ Pl.strs (s.data.toList.drop k) = Pl.strs s.data.toList) := hacc
    clear hacc
    have hz := hbw.size
    by_cases hlt : k < s.size
    · by_cases hp : s[k].toNat ≠ 92 ∨ s.size ≤ k + 3
      · have HB : Hid (acc ++ (s[k] :: Pl.strs (s.data.toList.drop (k + 1))) = Pl.strs s.data.toList) := by
          show _ = _
          rw [← HA.out, Pl.drop_at s k hlt, Pl.strs_cons, if_pos]
          rcases hp with q | q
          · exact .inl (fun e => q (by rw [e]; rfl))
          · exact .inr (by rw [List.length_drop, Pl.len_eq]; omega)
        by_cases h92 : s[k].toNat = 92
        · have h1 : ((s[k].toNat : Int) != 92) = false := by rw [h92]; rfl
          have hk3 : s.size ≤ k + 3 := by omega
          clear h92 hp
          go_wp2_with (first | (at_builtin; refine wpList_append_own _ rfl _ _ 41 rfl w.heap.size 5 i0 (.int .u8 0) 1 1 Tryd.underlying41 hi hz0 hz1 hz2 rfl (by decide) _ _ _ rfl (hown.alloc _) ⟨wr.heap.size, 0, none⟩ 1 1 [.int .u8 s[k].toNat] rfl rfl ?c1 ?c2 ?c3 ?c4 ?c5 ?_))
          case c1 =>
            intro j u hj
            match j, hj with
            | 0, hj => simp at hj; subst hj; simp [Addr.add]
          case c2 => intro u hu; simp at hu; subst hu; rfl
          case c3 => unfold maxLen; omega
          case c4 => omega
          case c5 => simp; omega
          · intro v' w1 hown' hgrow _
            have hb1 : Below w.heap.size w w1 := below_grown (hbw.alloc hz _) (hown.alloc _) hgrow (by simp; omega)
            go_wp2
            go_roundw
            case rel =>
              refine ⟨k + 1, acc ++ [s[k]], by omega, by go_num, ?_, hb1, by rw [List.append_assoc]; exact HB.out, by simp; omega⟩
              rw [byteCells_snoc1, List.length_append]
              exact hown'
            case measure => simp [intOf]; omega
        · have h1 : ((s[k].toNat : Int) != 92) = true := by rw [bne_iff_ne]; omega
          clear h92 hp
          go_wp2_with (first | (at_builtin; refine wpList_append_own _ rfl _ _ 41 rfl w.heap.size 5 i0 (.int .u8 0) 1 1 Tryd.underlying41 hi hz0 hz1 hz2 rfl (by decide) _ _ _ rfl (hown.alloc _) ⟨wr.heap.size, 0, none⟩ 1 1 [.int .u8 s[k].toNat] rfl rfl ?c1 ?c2 ?c3 ?c4 ?c5 ?_))
          case c1 =>
            intro j u hj
            match j, hj with
            | 0, hj => simp at hj; subst hj; simp [Addr.add]
          case c2 => intro u hu; simp at hu; subst hu; rfl
          case c3 => unfold maxLen; omega
          case c4 => omega
          case c5 => simp; omega
          · intro v' w1 hown' hgrow _
            have hb1 : Below w.heap.size w w1 := below_grown (hbw.alloc hz _) (hown.alloc _) hgrow (by simp; omega)
            go_wp2
            go_roundw
            case rel =>
              refine ⟨k + 1, acc ++ [s[k]], by omega, by go_num, ?_, hb1, by rw [List.append_assoc]; exact HB.out, by simp; omega⟩
              rw [byteCells_snoc1, List.length_append]
              exact hown'
            case measure => simp [intOf]; omega
      · have h92 : s[k].toNat = 92 := by omega
        have hk3 : k + 3 < s.size := by omega
        have hk1 : k + 1 < s.size := by omega
        have HC : Hid (Pl.strs (s.data.toList.drop k) = if (s.data.toList.drop (k + 1)).getD 0 0 = 120 then Pl.byteOf (Pl.hexVal (((s.data.toList.drop (k + 1)).drop 1).take 2) 0) :: Pl.strs ((s.data.toList.drop (k + 1)).drop 3)
            else if 5 ≤ (s.data.toList.drop (k + 1)).length ∧ (s.data.toList.drop (k + 1)).take 4 = [117, 50, 48, 50] then 226 :: 128 :: (160 + (s.data.toList.drop (k + 1)).getD 4 0 - 48) :: Pl.strs ((s.data.toList.drop (k + 1)).drop 5)
            else Pl.strs (s.data.toList.drop (k + 1))) := by
          show _ = _
          rw [Pl.drop_at s k hlt, Pl.strs_cons, if_neg]
          rintro (q | q)
          · exact q (UInt8.toNat_inj.1 (by simpa using h92))
          · rw [List.length_drop, Pl.len_eq] at q; omega
        have h1 : ((s[k].toNat : Int) != 92) = false := by rw [h92]; rfl
        have g0 : Hid ((s.data.toList.drop (k + 1)).getD 0 0 = s[k + 1]'hk1) := by
          show _ = _; rw [Pl.drop_at s (k + 1) (by omega)]; rfl
        clear h92 hp
        by_cases hx : (s[k + 1]'hk1).toNat = 120
        · have HB : Hid (acc ++ (Pl.byteOf (Pl.hexVal (List.take 2 (List.drop (k + 2) s.data.toList)) 0) :: Pl.strs (s.data.toList.drop (k + 4))) = Pl.strs s.data.toList) := by
            show _ = _
            rw [← HA.out, HC.out, if_pos (by rw [g0.out]; exact UInt8.toNat_inj.1 (by simpa using hx)), List.drop_drop, List.drop_drop]
          have hx1 : (((s[k + 1]'hk1).toNat : Int) == 120) = true := beq_iff_eq.2 (by omega)
          have hsz : (s.extract (k + 2) (k + 4)).size ≤ 2 := by simp; omega
          clear hx
          go_wp2_with (first
            | (go_at_call 42; refine (hex_any (s.extract (k + 2) (k + 4)) _ hsz).mono ?_; rintro e w' ⟨rfl, rfl⟩)
            | (at_builtin; refine wpList_append_own _ rfl _ _ 41 rfl w.heap.size 5 i0 (.int .u8 0) 1 1 Tryd.underlying41 hi hz0 hz1 hz2 rfl (by decide) _ _ _ rfl (hown.alloc _) ⟨wr.heap.size, 0, none⟩ 1 1 [.int .u8 (Pl.hexVal (List.take 2 (List.drop (k + 2) s.data.toList)) 0 % 256)] rfl rfl ?c1 ?c2 ?c3 ?c4 ?c5 ?_))
          case c1 =>
            intro j u hj
            match j, hj with
            | 0, hj => simp at hj; subst hj; simp [Addr.add]
          case c2 => intro u hu; simp at hu; subst hu; rfl
          case c3 => unfold maxLen; omega
          case c4 => omega
          case c5 => simp; omega
          · intro v' w1 hown' hgrow _
            have hb1 : Below w.heap.size w w1 := below_grown (hbw.alloc hz _) (hown.alloc _) hgrow (by simp; omega)
            go_wp2
            go_roundw
            case rel =>
              refine ⟨k + 4, acc ++ [Pl.byteOf (Pl.hexVal (List.take 2 (List.drop (k + 2) s.data.toList)) 0)], by omega, by go_num, ?_, hb1, by rw [List.append_assoc]; exact HB.out, by simp; omega⟩
              rw [byteCells_snoc1, List.length_append, byteOf_int]
              exact hown'
            case measure => simp [intOf]; omega
        · have hx1 : (((s[k + 1]'hk1).toNat : Int) == 120) = false := beq_eq_false_iff_ne.2 (by omega)
          have HC2 : Hid (Pl.strs (s.data.toList.drop k) = if 5 ≤ (s.data.toList.drop (k + 1)).length ∧ (s.data.toList.drop (k + 1)).take 4 = [117, 50, 48, 50] then 226 :: 128 :: (160 + (s.data.toList.drop (k + 1)).getD 4 0 - 48) :: Pl.strs ((s.data.toList.drop (k + 1)).drop 5)
            else Pl.strs (s.data.toList.drop (k + 1))) := by
            show _ = _
            rw [HC.out, if_neg]
            rw [g0.out]; exact fun e => hx (by rw [e]; rfl)
          clear hx
          by_cases hk5 : k + 5 < s.size
          · by_cases hu : ((s.extract (k + 1) (k + 5)).toList == [117, 50, 48, 50]) = true
            · have g4 : Hid ((s.data.toList.drop (k + 1)).getD 4 0 = s[k + 5]'hk5) := by
                show _ = _
                rw [List.getD_eq_getElem?_getD, List.getElem?_drop]
                show (s.data.toList[k + 5]?).getD 0 = _
                rw [Pl.get_at s (k + 5) hk5]; rfl
              have HB : Hid (acc ++ ([226, 128, 160 + s[k + 5]'hk5 - 48] ++ Pl.strs (s.data.toList.drop (k + 6))) = Pl.strs s.data.toList) := by
                show _ = _
                rw [← HA.out, HC2.out, if_pos ⟨by rw [List.length_drop, Pl.len_eq]; omega, by rw [u202, ext_of_beq hu]⟩, g4.out, List.drop_drop]; rfl
              go_wp2_with (first | (at_builtin; refine wpList_append_own _ rfl _ _ 41 rfl w.heap.size 5 i0 (.int .u8 0) 1 1 Tryd.underlying41 hi hz0 hz1 hz2 rfl (by decide) _ _ _ rfl (hown.alloc _) ⟨wr.heap.size, 0, none⟩ 3 3 [.int .u8 226, .int .u8 128, .int .u8 ((160 + ↑(s[k + 5]'hk5).toNat - 48) % 256)] rfl rfl ?c1 ?c2 ?c3 ?c4 ?c5 ?_))
              case c1 =>
                intro j u hj
                match j, hj with
                | 0, hj => simp at hj; subst hj; simp [Addr.add]
                | 1, hj => simp at hj; subst hj; simp [Addr.add]
                | 2, hj => simp at hj; subst hj; simp [Addr.add]
              case c2 => intro u hu; simp at hu; rcases hu with rfl | rfl | rfl <;> rfl
              case c3 => unfold maxLen; omega
              case c4 => omega
              case c5 => simp; omega
              · intro v' w1 hown' hgrow _
                have hb1 : Below w.heap.size w w1 := below_grown (hbw.alloc hz _) (hown.alloc _) hgrow (by simp; omega)
                go_wp2
                go_roundw
                case rel =>
                  refine ⟨k + 6, acc ++ [226, 128, 160 + s[k + 5]'hk5 - 48], by omega, by go_num, ?_, hb1, by rw [List.append_assoc]; exact HB.out, by simp; omega⟩
                  rw [Lib.byteCells_append, List.length_append, show Lib.byteCells [226, 128, 160 + s[k + 5]'hk5 - 48] = [.int .u8 226, .int .u8 128, .int .u8 ((160 + ↑(s[k + 5]'hk5).toNat - 48) % 256)] by rw [← digit_off]; rfl]
                  exact hown'
                case measure => simp [intOf]; omega
            · have hu : ((s.extract (k + 1) (k + 5)).toList == [117, 50, 48, 50]) = false := Bool.eq_false_iff.2 hu
              have HB : Hid (acc ++ Pl.strs (s.data.toList.drop (k + 1)) = Pl.strs s.data.toList) := by
                show _ = _
                rw [← HA.out, HC2.out, if_neg]
                rintro ⟨_, q⟩
                rw [u202] at q
                exact ext_of_bne hu (ByteArray.ext (Array.toList_inj.1 q))
              go_wp2
              go_roundw
              case rel => exact ⟨k + 1, acc, by omega, by go_num, hown, hbw, HB.out, by omega⟩
              case measure => simp [intOf]; omega
          · have HB : Hid (acc ++ Pl.strs (s.data.toList.drop (k + 1)) = Pl.strs s.data.toList) := by
              show _ = _
              rw [← HA.out, HC2.out, if_neg]
              rintro ⟨q, _⟩
              rw [List.length_drop, Pl.len_eq] at q; omega
            go_wp2
            go_roundw
            case rel => exact ⟨k + 1, acc, by omega, by go_num, hown, hbw, HB.out, by omega⟩
            case measure => simp [intOf]; omega
    · have e0 : acc = Pl.strs s.data.toList := by
        have := HA.out
        rw [Pl.drop_end s k hlt] at this
        simpa [Pl.strs, Pl.strF] using this
      subst e0
      have hcv := conv_own (P := Tryd.prog) wr 41 9 5 Tryd.underlying41 Tryd.underlying5 Tryd.underlying9 w.heap.size _ _ hown
      go_wp2
      go_ret
      exact ⟨rfl, hbw⟩

end Go.Proofs.YtfkhljmiehdgmaaDoor
