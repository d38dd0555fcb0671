/-
  The walks of the document's answer: letters as small ones, the scheme of a link.
-/
import Derived.Test.YtfkhljmiehdgmaaDoorWalkB
import Derived.Test.YtfkhljmiehdgmaaDoorAid
import Derived.Test.YtfkhljmiehdgmaaDoorPlainD
namespace Go.Proofs.YtfkhljmiehdgmaaDoor
open Go.RowKit

theorem among_list (b : UInt8) (all : ByteArray) (l : List UInt8) (w : World) (ha : all.data.toList = l) (hl : l.length ≤ 1000) :
    Calls Tryd.prog 48 #[.int .u8 b.toNat, .string all] w fun e w' => e = .returned (.bool (Pl.among b l)) ∧ w = w' := by
  rw [← ha]
  refine among_any b all w ?_
  have : all.data.toList.length = all.size := rfl
  rw [← this, ha]; omega
theorem info_u8 : (Tryd.prog.info? 5).map (fun i => (i.zero, i.size, i.bytes)) = some (some (.int .u8 0), 1, 1) := by kernel_rfl

set_option maxRecDepth 100000 in
set_option maxHeartbeats 1600000 in
theorem lower_any (s : ByteArray) (w : World) (hs : s.size ≤ 100000000) :
    Calls Tryd.prog 34 #[.string s] w fun e w' => e = .returned (.string ⟨(Pl.lower s.data.toList).toArray⟩) ∧ Below w.heap.size w w' := by
  obtain ⟨i0, hi, hz0, hz1, hz2⟩ := info_parts info_u8
  go_enter Tryd.func34, Tryd.ntmps34
  go_wp2
  go_loopw [3, 4] (fun v i wr => ∃ k : Nat, k ≤ s.size ∧ i = .int .i64 k ∧ wr.ownsRow w.heap.size 5 1 v k (Lib.byteCells (Pl.lower (s.data.toList.take k))) ∧ Below w.heap.size w wr) (fun _ i _ => s.size - (intOf i).toNat)
  case atStart => exact ⟨0, Nat.zero_le _, rfl, World.ownsRow_nil _ _ _ _, Below.refl _ _⟩
  case round =>
    obtain ⟨k, hk, rfl, hown, hbw⟩ := hrel
    by_cases hlt : k < s.size
    · have hz := hbw.size
      go_wp2_with (first
        | (go_at_call 50; refine (small_any s[k] _).mono ?_; rintro e w' ⟨rfl, rfl⟩)
        | (at_builtin; refine wpList_append_own _ rfl _ _ 41 rfl w.heap.size 5 i0 (.int .u8 0) 1 1 Tryd.underlying41 hi hz0 hz1 hz2 rfl (by decide) _ _ _ rfl (hown.alloc _) ⟨wr.heap.size, 0, none⟩ 1 1 [.int .u8 (Pl.small s[k]).toNat] rfl rfl ?c1 ?c2 ?c3 ?c4 ?c5 ?_))
      case c1 =>
        intro j u hj
        match j, hj with
        | 0, hj => simp at hj; subst hj; simp [Addr.add]
      case c2 => intro u hu; simp at hu; subst hu; rfl
      case c3 => unfold maxLen; omega
      case c4 => omega
      case c5 => simp; omega
      · intro v' w1 hown' hgrow _
        have hb1 : Below w.heap.size w w1 := below_grown (hbw.alloc hz _) (hown.alloc _) hgrow (by simp; omega)
        go_wp2
        go_roundw
        case rel =>
          refine ⟨k + 1, by omega, by go_num, ?_, hb1⟩
          rw [Pl.take_snoc s k hlt, show Pl.lower (s.data.toList.take k ++ [s[k]]) = Pl.lower (s.data.toList.take k) ++ [Pl.small s[k]] by simp [Pl.lower], byteCells_snoc1]
          exact hown'
        case measure => simp [intOf]; omega
    · have hke : k = s.size := by omega
      have e : (Pl.lower (s.data.toList.take k)).length = k := by unfold Pl.lower; rw [List.length_map, Pl.take_len s k hk]
      rw [Pl.take_all s k (by omega)] at hown e
      have hcv := conv_own (P := Tryd.prog) wr 41 9 5 Tryd.underlying41 Tryd.underlying5 Tryd.underlying9 w.heap.size _ (Pl.lower s.data.toList) (by rw [e]; exact hown)
      clear e hke
      go_wp2
      go_ret
      exact ⟨rfl, hbw⟩

set_option maxRecDepth 100000 in
set_option maxHeartbeats 1600000 in
theorem schemed_any (s : ByteArray) (w : World) (hs : s.size ≤ 100000000) :
    Calls Tryd.prog 33 #[.string s] w fun e w' => e = .returned (.int .i64 (Pl.schemed s.data.toList)) ∧ w = w' := by
  go_enter Tryd.func33, Tryd.ntmps33
  go_wp2
  go_loop [3] (fun i => ∃ k : Nat, k ≤ s.size ∧ i = .int .i64 k ∧ Pl.run s.data.toList false = k + Pl.run (s.data.toList.drop k) (decide (0 < k))) (fun i => s.size - (intOf i).toNat)
  case atStart => exact ⟨0, Nat.zero_le _, rfl, by simp⟩
  case round =>
    obtain ⟨k, hk, rfl, hr⟩ := hrel
    have HR : Hid (Pl.run s.data.toList false = k + Pl.run (s.data.toList.drop k) (decide (0 < k))) := hr
    clear hr
    by_cases hlt : k < s.size
    · by_cases hl : Pl.among s[k] Pl.letters = true
      · go_wp2_with (first | (go_at_call 48; refine (among_list s[k] _ Pl.letters _ rfl (by decide)).mono ?_; rintro e w' ⟨rfl, rfl⟩))
        go_round
        case rel => exact ⟨k + 1, by omega, by go_num, by rw [HR.out, Pl.run_letter s k hlt _ hl]; simp; omega⟩
        case measure => simp [intOf]; omega
      · have hl : Pl.among s[k] Pl.letters = false := by simpa using hl
        by_cases h0 : 0 < k
        · have h0' : decide (0 < k) = true := by simpa using h0
          by_cases hd : Pl.among s[k] Pl.digitsPlus = true
          · go_wp2_with fail
            refine (among_list s[k] _ Pl.letters _ rfl (by decide)).mono ?_
            rintro e w' ⟨rfl, rfl⟩
            go_wp2_with fail
            refine (among_list s[k] _ Pl.digitsPlus _ rfl (by decide)).mono ?_
            rintro e w' ⟨rfl, rfl⟩
            go_wp2_with fail
            go_round
            case rel => exact ⟨k + 1, by omega, by go_num, by rw [HR.out, h0', Pl.run_digit s k hlt hd]; simp; omega⟩
            case measure => simp [intOf]; omega
          · have hd : Pl.among s[k] Pl.digitsPlus = false := by simpa using hd
            have hk0 : ((k : Int) == 0) = false := beq_eq_false_iff_ne.2 (by omega)
            have hk1 : ((k : Int) == (s.size : Int)) = false := beq_eq_false_iff_ne.2 (by omega)
            have he : Hid (Pl.run s.data.toList false = k) := by show _ = _; rw [HR.out, Pl.run_stop s k hlt _ hl hd]; rfl
            by_cases hc : s[k].toNat = 58
            · have Hc : Hid (s[k].toNat = 58) := hc
              have hc2 : ((s[k].toNat : Int) != 58) = false := by rw [hc]; rfl
              clear hc
              go_wp2_with fail
              refine (among_list s[k] _ Pl.letters _ rfl (by decide)).mono ?_
              rintro e w' ⟨rfl, rfl⟩
              go_wp2_with fail
              refine (among_list s[k] _ Pl.digitsPlus _ rfl (by decide)).mono ?_
              rintro e w' ⟨rfl, rfl⟩
              go_wp2_with fail
              go_ret
              exact ⟨ret_int (by rw [Pl.schemed_yes s k he.out h0 hlt Hc.out]; rfl), rfl⟩
            · have Hc : Hid (¬ s[k].toNat = 58) := hc
              have hc2 : ((s[k].toNat : Int) != 58) = true := by rw [bne_iff_ne]; omega
              clear hc
              go_wp2_with fail
              refine (among_list s[k] _ Pl.letters _ rfl (by decide)).mono ?_
              rintro e w' ⟨rfl, rfl⟩
              go_wp2_with fail
              refine (among_list s[k] _ Pl.digitsPlus _ rfl (by decide)).mono ?_
              rintro e w' ⟨rfl, rfl⟩
              go_wp2_with fail
              go_ret
              exact ⟨ret_int (by rw [Pl.schemed_no s k he.out hlt Hc.out]; rfl), rfl⟩
        · have hk0 : ((k : Int) == 0) = true := beq_iff_eq.2 (by omega)
          have he : Hid (Pl.run s.data.toList false = 0) := by
            obtain rfl : k = 0 := by omega
            show _ = _; rw [HR.out]; exact (Nat.zero_add _).trans (Pl.run_stop0 s 0 hlt hl)
          go_wp2_with (first | (go_at_call 48; refine (among_list s[k] _ Pl.letters _ rfl (by decide)).mono ?_; rintro e w' ⟨rfl, rfl⟩))
          go_ret
          exact ⟨ret_int (by rw [Pl.schemed_zero _ he.out]; rfl), rfl⟩
    · have he : Hid (Pl.run s.data.toList false = k) := by show _ = _; rw [HR.out, Pl.run_over s k hlt]; rfl
      have hk1 : ((k : Int) == (s.size : Int)) = true := beq_iff_eq.2 (by omega)
      have hs0 : Hid (Pl.schemed s.data.toList = 0) := Pl.schemed_over s k he.out hlt
      by_cases h0 : 0 < k
      · have hk0 : ((k : Int) == 0) = false := beq_eq_false_iff_ne.2 (by omega)
        go_wp2_with (first | (go_at_call 48; refine (among_list s[k] _ Pl.letters _ rfl (by decide)).mono ?_; rintro e w' ⟨rfl, rfl⟩))
        go_ret
        exact ⟨ret_int (by rw [hs0.out]; rfl), rfl⟩
      · have hk0 : ((k : Int) == 0) = true := beq_iff_eq.2 (by omega)
        go_wp2_with (first | (go_at_call 48; refine (among_list s[k] _ Pl.letters _ rfl (by decide)).mono ?_; rintro e w' ⟨rfl, rfl⟩))
        go_ret
        exact ⟨ret_int (by rw [hs0.out]; rfl), rfl⟩
end Go.Proofs.YtfkhljmiehdgmaaDoor
