/-
  The walks under Undone: percents undone.
-/
import Derived.Test.YtfkhljmiehdgmaaDoorWalkR
namespace Go.Proofs.YtfkhljmiehdgmaaDoor
open Go.RowKit

theorem info_u8c : (Tryd.prog.info? 5).map (fun i => (i.zero, i.size, i.bytes)) = some (some (.int .u8 0), 1, 1) := by kernel_rfl
theorem byteOf_int (n : Int) : ((Pl.byteOf n).toNat : Int) = n % 256 := by
  unfold Pl.byteOf
  rw [UInt8.toNat_ofNat']
  omega

set_option maxRecDepth 100000 in
set_option maxHeartbeats 3200000 in
theorem percents_any (s : ByteArray) (w : World) (hs : s.size ≤ 1000000000) :
    Calls Tryd.prog 25 #[.string s] w fun e w' => e = .returned (.string ⟨(Pl.pers s.data.toList).toArray⟩) ∧ Below w.heap.size w w' := by
  obtain ⟨i0, hi, hz0, hz1, hz2⟩ := info_parts info_u8c
  go_enter Tryd.func25, Tryd.ntmps25
  go_wp2
  go_loopw [3, 4] (fun v i wr => ∃ (k : Nat) (acc : List UInt8), k ≤ s.size ∧ i = .int .i64 k ∧ wr.ownsRow w.heap.size 5 1 v acc.length (Lib.byteCells acc) ∧ Below w.heap.size w wr ∧ acc ++ Pl.pers (s.data.toList.drop k) = Pl.pers s.data.toList ∧ acc.length ≤ k) (fun _ i _ => s.size - (intOf i).toNat)
  case atStart => exact ⟨0, [], Nat.zero_le _, rfl, World.ownsRow_nil _ _ _ _, Below.refl _ _, rfl, by simp⟩
  case round =>
    obtain ⟨k, acc, hk, rfl, hown, hbw, hacc, hal⟩ := hrel
    have HA : Hid (acc ++ Pl.pers (s.data.toList.drop k) = Pl.pers s.data.toList) := hacc
    clear hacc
    have hz := hbw.size
    by_cases hlt : k < s.size
    · by_cases hp : s[k].toNat = 37 ∧ k + 2 < s.size
      · obtain ⟨h37, hk2⟩ := hp
        have h1 : ((s[k].toNat : Int) == 37) = true := beq_iff_eq.2 (by omega)
        have H37 : Hid (s[k].toNat = 37) := h37
        clear h37
        have hsz : (s.extract (k + 1) (k + 3)).size ≤ 2 := by simp; omega
        have HB : Hid (acc ++ (Pl.byteOf (Pl.hexVal (List.take 2 (List.drop (k + 1) s.data.toList)) 0) :: Pl.pers (s.data.toList.drop (k + 3))) = Pl.pers s.data.toList) := by
          show _ = _
          rw [← HA.out, Pl.drop_at s k hlt, Pl.pers_cons, if_pos ⟨UInt8.toNat_inj.1 (by simpa using H37.out), by rw [List.length_drop, Pl.len_eq]; omega⟩, List.drop_drop]
        go_wp2_with (first
          | (go_at_call 42; refine (hex_any (s.extract (k + 1) (k + 3)) _ hsz).mono ?_; rintro e w' ⟨rfl, rfl⟩)
          | (at_builtin; refine wpList_append_own _ rfl _ _ 41 rfl w.heap.size 5 i0 (.int .u8 0) 1 1 Tryd.underlying41 hi hz0 hz1 hz2 rfl (by decide) _ _ _ rfl (hown.alloc _) ⟨wr.heap.size, 0, none⟩ 1 1 [.int .u8 (Pl.hexVal (List.take 2 (List.drop (k + 1) s.data.toList)) 0 % 256)] rfl rfl ?c1 ?c2 ?c3 ?c4 ?c5 ?_))
        case c1 =>
          intro j u hj
          match j, hj with
          | 0, hj => simp at hj; subst hj; simp [Addr.add]
        case c2 => intro u hu; simp at hu; subst hu; rfl
        case c3 => unfold maxLen; omega
        case c4 => omega
        case c5 => simp; omega
        · intro v' w1 hown' hgrow _
          have hb1 : Below w.heap.size w w1 := below_grown (hbw.alloc hz _) (hown.alloc _) hgrow (by simp; omega)
          go_wp2
          go_roundw
          case rel =>
            refine ⟨k + 3, acc ++ [Pl.byteOf (Pl.hexVal (List.take 2 (List.drop (k + 1) s.data.toList)) 0)], by omega, by go_num, ?_, hb1, by rw [List.append_assoc]; exact HB.out, by simp; omega⟩
            rw [byteCells_snoc1, List.length_append, byteOf_int]
            exact hown'
          case measure => simp [intOf]; omega
      · have HP : Hid (¬ (s[k].toNat = 37 ∧ k + 2 < s.size)) := hp
        have HB : Hid (acc ++ (s[k] :: Pl.pers (s.data.toList.drop (k + 1))) = Pl.pers s.data.toList) := by
          show _ = _
          rw [← HA.out, Pl.drop_at s k hlt, Pl.pers_cons, if_neg]
          rintro ⟨q1, q2⟩
          rw [List.length_drop, Pl.len_eq] at q2
          exact HP.out ⟨by rw [q1]; rfl, by omega⟩
        by_cases h37 : s[k].toNat = 37
        · have h1 : ((s[k].toNat : Int) == 37) = true := beq_iff_eq.2 (by omega)
          have hk2 : ¬ k + 2 < s.size := fun q => hp ⟨h37, q⟩
          clear h37 hp
          go_wp2_with (first | (at_builtin; refine wpList_append_own _ rfl _ _ 41 rfl w.heap.size 5 i0 (.int .u8 0) 1 1 Tryd.underlying41 hi hz0 hz1 hz2 rfl (by decide) _ _ _ rfl (hown.alloc _) ⟨wr.heap.size, 0, none⟩ 1 1 [.int .u8 s[k].toNat] rfl rfl ?c1 ?c2 ?c3 ?c4 ?c5 ?_))
          case c1 =>
            intro j u hj
            match j, hj with
            | 0, hj => simp at hj; subst hj; simp [Addr.add]
          case c2 => intro u hu; simp at hu; subst hu; rfl
          case c3 => unfold maxLen; omega
          case c4 => omega
          case c5 => simp; omega
          · intro v' w1 hown' hgrow _
            have hb1 : Below w.heap.size w w1 := below_grown (hbw.alloc hz _) (hown.alloc _) hgrow (by simp; omega)
            go_wp2
            go_roundw
            case rel =>
              refine ⟨k + 1, acc ++ [s[k]], by omega, by go_num, ?_, hb1, by rw [List.append_assoc]; exact HB.out, by simp; omega⟩
              rw [byteCells_snoc1, List.length_append]
              exact hown'
            case measure => simp [intOf]; omega
        · have h1 : ((s[k].toNat : Int) == 37) = false := beq_eq_false_iff_ne.2 (by omega)
          clear h37 hp
          go_wp2_with (first | (at_builtin; refine wpList_append_own _ rfl _ _ 41 rfl w.heap.size 5 i0 (.int .u8 0) 1 1 Tryd.underlying41 hi hz0 hz1 hz2 rfl (by decide) _ _ _ rfl (hown.alloc _) ⟨wr.heap.size, 0, none⟩ 1 1 [.int .u8 s[k].toNat] rfl rfl ?c1 ?c2 ?c3 ?c4 ?c5 ?_))
          case c1 =>
            intro j u hj
            match j, hj with
            | 0, hj => simp at hj; subst hj; simp [Addr.add]
          case c2 => intro u hu; simp at hu; subst hu; rfl
          case c3 => unfold maxLen; omega
          case c4 => omega
          case c5 => simp; omega
          · intro v' w1 hown' hgrow _
            have hb1 : Below w.heap.size w w1 := below_grown (hbw.alloc hz _) (hown.alloc _) hgrow (by simp; omega)
            go_wp2
            go_roundw
            case rel =>
              refine ⟨k + 1, acc ++ [s[k]], by omega, by go_num, ?_, hb1, by rw [List.append_assoc]; exact HB.out, by simp; omega⟩
              rw [byteCells_snoc1, List.length_append]
              exact hown'
            case measure => simp [intOf]; omega
    · have e0 : acc = Pl.pers s.data.toList := by
        have := HA.out
        rw [Pl.drop_end s k hlt] at this
        simpa [Pl.pers, Pl.perF] using this
      subst e0
      have hcv := conv_own (P := Tryd.prog) wr 41 9 5 Tryd.underlying41 Tryd.underlying5 Tryd.underlying9 w.heap.size _ _ hown
      go_wp2
      go_ret
      exact ⟨rfl, hbw⟩

end Go.Proofs.YtfkhljmiehdgmaaDoor
